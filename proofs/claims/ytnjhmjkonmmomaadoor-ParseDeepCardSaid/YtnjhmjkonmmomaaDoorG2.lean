/- The texts SRef2, LPlain, LBnd, RefAll, SRef3, SRef4, joined. -/
import Derived.Test.YtnjhmjkonmmomaaDoorG1
import Derived.Test.YtnjhmjkonmmomaaDoorProg
import Derived.WalkKit
import Derived.WalkMore
import Derived.Below
import Derived.Lib.Hide
import Derived.Shelf.Unicode.DecodeSlow
import Derived.WalkSmall
import Derived.Deep.DeepMust
import Derived.Maps.AppendAt
/- SRef2: Contracts of the document's own answers for layer 8: name, number, quote, comment. -/
section
namespace Go.Proofs.YtnjhmjkonmmomaaDoor.S
open Go.RowKit
open Go.Lib
open Go.Proofs.YtnjhmjkonmmomaaDoor.U

theorem tl_len (s : ByteArray) : s.toList.length = s.size := by rw [ByteArray.toList_eq]; rfl
theorem tl_drop (s : ByteArray) {i : Nat} (h : i < s.size) : s.toList.drop i = s[i] :: s.toList.drop (i + 1) := by
  rw [List.drop_eq_getElem_cons (by rw [tl_len]; exact h)]
  congr 1
  simp only [ByteArray.toList_eq]
  rfl
theorem tl_end (s : ByteArray) {i : Nat} (h : s.size ≤ i) : s.toList.drop i = [] := List.drop_of_length_le (by rw [tl_len]; exact h)

/-- What a name has from a place on. -/
def nameAt (s : ByteArray) (i : Nat) : Nat := if i = 0 then nameLen s.toList else i + ((s.toList.drop i).takeWhile nmc).length
theorem nameAt_on (s : ByteArray) {i : Nat} (h : i < s.size) (hc : lett s[i] = true ∨ (figu s[i] = true ∧ i ≠ 0)) : nameAt s (i + 1) = nameAt s i := by
  unfold nameAt
  rw [if_neg (by omega)]
  by_cases h0 : i = 0
  · subst h0
    rw [if_pos rfl]
    have hl : lett s[0] = true := by
      rcases hc with h | ⟨_, h⟩
      · exact h
      · exact absurd rfl h
    have := tl_drop s h
    rw [List.drop_zero] at this
    rw [this]
    simp only [nameLen, hl, if_true, Nat.zero_add, List.drop_succ_cons, List.drop_zero]
  · rw [if_neg h0, tl_drop s h, List.takeWhile_cons]
    have : nmc s[i] = true := by
      unfold nmc
      rcases hc with h | ⟨h, _⟩ <;> simp [h]
    rw [this]
    simp only [if_true, List.length_cons]
    omega
theorem nameAt_off (s : ByteArray) {i : Nat} (h : i < s.size) (h1 : lett s[i] = false) (h2 : figu s[i] = false ∨ i = 0) : nameAt s i = i := by
  unfold nameAt
  by_cases h0 : i = 0
  · subst h0
    rw [if_pos rfl]
    have := tl_drop s h
    rw [List.drop_zero] at this
    rw [this]
    simp [nameLen, h1]
  · rw [if_neg h0, tl_drop s h, List.takeWhile_cons]
    have : nmc s[i] = false := by
      unfold nmc
      rcases h2 with h | h
      · simp [h, h1]
      · exact absurd h h0
    rw [this]
    simp
theorem nameAt_end (s : ByteArray) {i : Nat} (h : s.size ≤ i) : nameAt s i = i := by
  unfold nameAt
  by_cases h0 : i = 0
  · subst h0
    rw [if_pos rfl]
    have := tl_end s h
    rw [List.drop_zero] at this
    rw [this]; rfl
  · rw [if_neg h0, tl_end s h]; rfl
/-- What follows from a place on, while a test holds. -/
def whileAt (p : UInt8 → Bool) (s : ByteArray) (i : Nat) : Nat := i + ((s.toList.drop i).takeWhile p).length
theorem whileAt_on {p : UInt8 → Bool} {s : ByteArray} {i : Nat} (h : i < s.size) (hp : p s[i] = true) : whileAt p s (i + 1) = whileAt p s i := by
  unfold whileAt
  rw [tl_drop s h, List.takeWhile_cons, hp]
  simp only [if_true, List.length_cons]; omega
theorem whileAt_off {p : UInt8 → Bool} {s : ByteArray} {i : Nat} (h : i < s.size) (hp : p s[i] = false) : whileAt p s i = i := by
  unfold whileAt
  rw [tl_drop s h, List.takeWhile_cons, hp]; simp
theorem whileAt_end (p : UInt8 → Bool) {s : ByteArray} {i : Nat} (h : s.size ≤ i) : whileAt p s i = i := by
  unfold whileAt
  rw [tl_end s h]; rfl
theorem figu_or (c : UInt8) : (figu c = true ∧ decide ((48 : Int) ≤ (c.toNat : Int)) = true ∧ decide ((c.toNat : Int) ≤ 57) = true) ∨ (figu c = false ∧ decide ((48 : Int) ≤ (c.toNat : Int)) = false) ∨ (figu c = false ∧ decide ((48 : Int) ≤ (c.toNat : Int)) = true ∧ decide ((c.toNat : Int) ≤ 57) = false) := by
  have hf : figu c = decide (48 ≤ c.toNat ∧ c.toNat ≤ 57) := by unfold figu; simp [UInt8.le_iff_toNat_le]
  rw [hf]
  generalize c.toNat = n
  by_cases h1 : 48 ≤ n
  · by_cases h2 : n ≤ 57
    · exact .inl ⟨by simp [h1, h2], by simp; omega, by simp; omega⟩
    · exact .inr (.inr ⟨by simp [h2], by simp; omega, by simp; omega⟩)
  · exact .inr (.inl ⟨by simp [h1], by simp; omega⟩)
def qAt (s : ByteArray) (i : Nat) : Nat := match quoTail (s.toList.drop i) with | none => 0 | some n => i + n
theorem qAt_10 {s : ByteArray} {i : Nat} (h : i < s.size) (hc : s[i] = 10) : qAt s i = 0 := by
  unfold qAt
  rw [tl_drop s h]
  simp [quoTail, hc]
theorem qAt_34 {s : ByteArray} {i : Nat} (h : i < s.size) (hc : s[i] = 34) : qAt s i = i + 1 := by
  unfold qAt
  rw [tl_drop s h]
  simp [quoTail, hc]
theorem qAt_on {s : ByteArray} {i : Nat} (h : i < s.size) (h1 : s[i] ≠ 10) (h2 : s[i] ≠ 34) : qAt s (i + 1) = qAt s i := by
  unfold qAt
  rw [tl_drop s h]
  simp only [quoTail, if_neg h1, if_neg h2]
  cases quoTail (s.toList.drop (i + 1)) with
  | none => rfl
  | some n => simp only [Option.map_some]; omega
theorem qAt_end {s : ByteArray} {i : Nat} (h : s.size ≤ i) : qAt s i = 0 := by
  unfold qAt
  rw [tl_end s h]; rfl
theorem u8_eq (c d : UInt8) : ((c.toNat : Int) == (d.toNat : Int)) = decide (c = d) := by
  by_cases h : c = d
  · subst h; simp
  · have : ¬ c.toNat = d.toNat := fun e => h (UInt8.toNat_inj.1 e)
    simp [h]; omega
theorem ext_list (s : ByteArray) (i j : Nat) : (s.extract i j).toList = (s.toList.drop i).take (j - i) := by
  rw [ByteArray.toList_eq, ByteArray.toList_eq, ByteArray.data_extract, Array.toList_extract]
theorem ext_take (s : ByteArray) (n : Nat) : (s.extract 0 n).toList = s.toList.take n := by rw [ext_list]; rfl
theorem ext_drop (s : ByteArray) (n : Nat) : (s.extract n s.size).toList = s.toList.drop n := by
  rw [ext_list, List.take_of_length_le]
  rw [List.length_drop, tl_len]; exact Nat.le_refl _
def not10 (c : UInt8) : Bool := decide (c ≠ 10)
theorem cmt_or (s : ByteArray) : (2 ≤ s.size ∧ ((s.extract 0 2).toList == [47, 47]) = true ∧ cmtLen s.toList = whileAt not10 s 2) ∨ (2 ≤ s.size ∧ ((s.extract 0 2).toList == [47, 47]) = false ∧ cmtLen s.toList = 0) ∨ (s.size < 2 ∧ cmtLen s.toList = 0) := by
  have hl := tl_len s
  rw [ext_take]
  unfold whileAt
  match h : s.toList with
  | [] => rw [h] at hl; simp at hl; exact .inr (.inr ⟨by omega, rfl⟩)
  | [a] => rw [h] at hl; simp at hl; exact .inr (.inr ⟨by omega, rfl⟩)
  | a :: b :: r =>
    rw [h] at hl
    simp only [List.length_cons] at hl
    by_cases hc : a = 47 ∧ b = 47
    · obtain ⟨rfl, rfl⟩ := hc
      refine .inl ⟨by omega, by simp, ?_⟩
      simp only [cmtLen, and_self, if_true, List.drop_succ_cons, List.drop_zero]
      rfl
    · refine .inr (.inl ⟨by omega, ?_, ?_⟩)
      · simp only [List.take_succ_cons, List.take_zero]
        rw [beq_eq_false_iff_ne]
        intro h
        simp at h
        exact hc h
      · simp only [cmtLen]; rw [if_neg hc]
end Go.Proofs.YtnjhmjkonmmomaaDoor.S
end
/- LPlain: Plain facts about lines: where a text's bytes 10 stand, its lines, where each begins and ends, the offset of a place, the place of an offset, and what texts have that stand one behind the other. It imports nothing of the program. -/
section
namespace Go.Proofs.YtnjhmjkonmmomaaDoor.L
open Go.Lib Go.Proofs.YtnjhmjkonmmomaaDoor.U

/-! ### Places of units, the other way round -/
theorem uni_there : ∀ (l : List (Nat × Nat)) (pos ahead : Nat) (a u : Int), Wide l → uni l pos ahead a = (u, 0) →
    (pos : Int) ≤ a ∧ a ≤ ((pos + sumW l : Nat) : Int) ∧ (ahead : Int) ≤ u ∧ u ≤ ((ahead + sumU l : Nat) : Int) ∧ off l pos ahead u = (a, 0)
  | [], pos, ahead, a, u, _, h => by
    simp only [off, sumW, sumU, uni] at *
    split at h
    · rename_i hu
      simp only [Prod.mk.injEq, and_true] at h
      subst hu; subst h
      refine ⟨by omega, by omega, by omega, by omega, by simp⟩
    · simp at h
  | x :: t, pos, ahead, a, u, hw, h => by
    have hx := hw x (by simp)
    have hux := uw_pos x.1
    simp only [uni] at h
    split at h
    · rename_i hu
      simp only [Prod.mk.injEq, and_true] at h
      subst hu; subst h
      simp only [sumW, sumU, off]
      refine ⟨by omega, by omega, by omega, by omega, by simp⟩
    · rename_i hu
      obtain ⟨h1, h2, h3, h4, h5⟩ := uni_there t _ _ a u (fun y hy => hw y (by simp [hy])) h
      simp only [sumW, sumU, off]
      refine ⟨by omega, by omega, by omega, by omega, ?_⟩
      rw [if_neg (by omega)]; exact h5
theorem uni_less : ∀ (l : List (Nat × Nat)) (pos ahead : Nat) (a b u v : Int), Wide l → uni l pos ahead a = (u, 0) → uni l pos ahead b = (v, 0) → a < b → u < v
  | [], pos, ahead, a, b, u, v, _, h, k, hl => by
    simp only [uni] at h k
    split at h
    · split at k
      · omega
      · simp at k
    · simp at h
  | x :: t, pos, ahead, a, b, u, v, hw, h, k, hl => by
    have hx := hw x (by simp)
    have hux := uw_pos x.1
    simp only [uni] at h k
    split at k
    · rename_i hb
      split at h
      · omega
      · have := (uni_there t _ _ a u (fun y hy => hw y (by simp [hy])) h).1
        omega
    · split at h
      · simp only [Prod.mk.injEq, and_true] at h
        have := (uni_there t _ _ b v (fun y hy => hw y (by simp [hy])) k).2.2.1
        omega
      · exact uni_less t _ _ a b u v (fun y hy => hw y (by simp [hy])) h k hl
theorem uni_or : ∀ (l : List (Nat × Nat)) (pos ahead : Nat) (a : Int), (uni l pos ahead a = (0, 12)) ∨ ∃ u, uni l pos ahead a = (u, 0)
  | [], pos, ahead, a => by
    simp only [uni]; split
    · exact .inr ⟨_, rfl⟩
    · exact .inl rfl
  | x :: t, pos, ahead, a => by
    simp only [uni]; split
    · exact .inr ⟨_, rfl⟩
    · exact uni_or t _ _ a
/-- Of a text a unit's place, and the units ahead of a place, say the same. -/
theorem uniB_there (s : ByteArray) (a u : Int) (h : uniB s a = (u, 0)) : 0 ≤ a ∧ a ≤ s.size ∧ 0 ≤ u ∧ u ≤ 2 * (s.size : Int) ∧ offB s u = (a, 0) := by
  unfold uniB at h
  split at h
  · rename_i hok
    obtain ⟨h1, h2, h3, h4, h5⟩ := uni_there (items s) 0 0 a u (itemsF_wide s _ _) h
    rw [sumW_items] at h2
    have := sumU_items s
    refine ⟨by omega, by omega, by omega, by omega, ?_⟩
    unfold offB; rw [if_pos hok]; exact h5
  · simp at h
theorem uniB_less (s : ByteArray) (a b u v : Int) (h : uniB s a = (u, 0)) (k : uniB s b = (v, 0)) (hl : a < b) : u < v := by
  unfold uniB at h k
  split at h
  · rename_i hok
    rw [if_pos hok] at k
    exact uni_less (items s) 0 0 a b u v (itemsF_wide s _ _) h k hl
  · simp at h
theorem offB_there (s : ByteArray) (u a : Int) (h : offB s u = (a, 0)) : 0 ≤ a ∧ a ≤ s.size := by
  unfold offB at h
  split at h
  · obtain ⟨h1, h2, _⟩ := off_there (items s) 0 0 u a (itemsF_wide s _ _) h
    rw [sumW_items] at h2
    exact ⟨by omega, by omega⟩
  · simp at h
/-- What is answered of a unit's place: nothing and a reason, or the place. -/
theorem offB_or (s : ByteArray) (u : Int) : (∃ a : Nat, offB s u = ((a : Int), 0) ∧ a ≤ s.size) ∨ offB s u = (0, 12) ∨ offB s u = (0, 11) := by
  unfold offB
  split
  · rcases off_or (items s) 0 0 u with h | ⟨a, h⟩
    · exact .inr (.inl h)
    · obtain ⟨h1, h2, _⟩ := off_there (items s) 0 0 u a (itemsF_wide s _ _) h
      rw [sumW_items] at h2
      exact .inl ⟨a.toNat, by rw [h]; congr 1; omega, by omega⟩
  · exact .inr (.inr rfl)
theorem uniB_or (s : ByteArray) (a : Int) : (∃ u : Nat, uniB s a = ((u : Int), 0) ∧ u ≤ 2 * s.size ∧ 0 ≤ a ∧ a ≤ s.size) ∨ uniB s a = (0, 12) ∨ uniB s a = (0, 11) := by
  by_cases hok : okB s = true
  · rcases uni_or (items s) 0 0 a with h | ⟨u, h⟩
    · refine .inr (.inl ?_); unfold uniB; rw [if_pos hok]; exact h
    · have h' : uniB s a = (u, 0) := by unfold uniB; rw [if_pos hok]; exact h
      obtain ⟨h1, h2, h3, h4, _⟩ := uniB_there s a u h'
      exact .inl ⟨u.toNat, by rw [h']; congr 1; omega, by omega, h1, h2⟩
  · refine .inr (.inr ?_); unfold uniB; rw [if_neg hok]

/-! ### Ends and lines -/
def nlAt (s : ByteArray) (i : Nat) : Bool := (s.get! i).toNat == 10
/-- Where the bytes 10 stand of the first i. -/
def endsTo (s : ByteArray) (i : Nat) : List Nat := (List.range i).filter (nlAt s)
def ends (s : ByteArray) : List Nat := endsTo s s.size
theorem endsTo_zero (s : ByteArray) : endsTo s 0 = [] := rfl
theorem endsTo_hit (s : ByteArray) (i : Nat) (h : nlAt s i = true) : endsTo s (i + 1) = endsTo s i ++ [i] := by
  unfold endsTo; rw [List.range_succ, List.filter_append]; simp [h]
theorem endsTo_miss (s : ByteArray) (i : Nat) (h : nlAt s i = false) : endsTo s (i + 1) = endsTo s i := by
  unfold endsTo; rw [List.range_succ, List.filter_append]; simp [h]
theorem endsTo_len (s : ByteArray) (i : Nat) : (endsTo s i).length ≤ i := by
  unfold endsTo; have := List.length_filter_le (nlAt s) (List.range i); simpa using this
theorem endsTo_lt (s : ByteArray) (i x : Nat) (h : x ∈ endsTo s i) : x < i := by
  unfold endsTo at h; simp at h; exact h.1
theorem endsTo_rise (s : ByteArray) (i : Nat) : (endsTo s i).Pairwise (· < ·) := by
  unfold endsTo; exact (List.pairwise_lt_range).filter _

/-- Rising numbers below a bound. -/
structure Rise (E : List Nat) (n : Nat) : Prop where
  rise : E.Pairwise (· < ·)
  lt : ∀ x ∈ E, x < n
theorem rise_to (s : ByteArray) (i : Nat) : Rise (endsTo s i) i := ⟨endsTo_rise s i, endsTo_lt s i⟩
theorem rise_ends (s : ByteArray) : Rise (ends s) s.size := rise_to s s.size
theorem Rise.at_lt {E : List Nat} {n : Nat} (h : Rise E n) (i : Nat) (hi : i < E.length) : E.getD i 0 < n := by
  rw [List.getD_eq_getElem?_getD, List.getElem?_eq_getElem hi, Option.getD_some]; exact h.lt _ (List.getElem_mem hi)
theorem Rise.less {E : List Nat} {n : Nat} (h : Rise E n) (i j : Nat) (hij : i < j) (hj : j < E.length) : E.getD i 0 < E.getD j 0 := by
  rw [List.getD_eq_getElem?_getD, List.getElem?_eq_getElem (by omega), Option.getD_some, List.getD_eq_getElem?_getD, List.getElem?_eq_getElem hj, Option.getD_some]
  exact List.pairwise_iff_getElem.1 h.rise i j (by omega) hj hij
theorem Rise.count {E : List Nat} {n : Nat} (h : Rise E n) : E.length ≤ n := by
  have hk : ∀ k, k < E.length → k ≤ E.getD k 0 := by
    intro k
    induction k with
    | zero => intro _; omega
    | succ k ih => intro hk; have := ih (by omega); have := h.less k (k + 1) (by omega) hk; omega
  by_cases h0 : E.length = 0
  · omega
  · have := hk (E.length - 1) (by omega); have := h.at_lt (E.length - 1) (by omega); omega

/-- Where a line begins, and ends. -/
def nx (E : List Nat) (n : Nat) : Nat := if n = 0 then 0 else E.getD (n - 1) 0 + 1
def en (E : List Nat) (z n : Nat) : Nat := if n = E.length then z else E.getD n 0
theorem nx_zero (E : List Nat) : nx E 0 = 0 := rfl
theorem nx_succ (E : List Nat) (n : Nat) : nx E (n + 1) = E.getD n 0 + 1 := by unfold nx; rw [if_neg (by omega)]; rfl
theorem en_last (E : List Nat) (z : Nat) : en E z E.length = z := by unfold en; rw [if_pos rfl]
theorem en_at (E : List Nat) (z n : Nat) (h : n < E.length) : en E z n = E.getD n 0 := by unfold en; rw [if_neg (by omega)]
theorem nx_le_en {E : List Nat} {z : Nat} (h : Rise E z) (n : Nat) (hn : n ≤ E.length) : nx E n ≤ en E z n ∧ en E z n ≤ z := by
  rcases Nat.lt_or_ge n E.length with hlt | hge
  · rw [en_at E z n hlt]
    have h2 := h.at_lt n hlt
    rcases Nat.eq_zero_or_pos n with rfl | hp
    · rw [nx_zero]; omega
    · obtain ⟨m, rfl⟩ : ∃ m, n = m + 1 := ⟨n - 1, by omega⟩
      rw [nx_succ]; have := h.less m (m + 1) (by omega) hlt; omega
  · obtain rfl : n = E.length := by omega
    rw [en_last]
    rcases Nat.eq_zero_or_pos E.length with h0 | hp
    · rw [h0, nx_zero]; omega
    · obtain ⟨m, hm⟩ : ∃ m, E.length = m + 1 := ⟨E.length - 1, by omega⟩
      rw [hm, nx_succ]; have := h.at_lt m (by omega); omega
theorem nx_snoc (E : List Nat) (e n : Nat) (h : n ≤ E.length) : nx (E ++ [e]) n = nx E n := by
  unfold nx; split
  · rfl
  · rw [List.getD_eq_getElem?_getD, List.getElem?_append_left (by omega), ← List.getD_eq_getElem?_getD]
theorem getD_snoc (E : List Nat) (e n : Nat) (h : n < E.length) : (E ++ [e]).getD n 0 = E.getD n 0 := by
  rw [List.getD_eq_getElem?_getD, List.getElem?_append_left h, ← List.getD_eq_getElem?_getD]
theorem getD_last (E : List Nat) (e : Nat) : (E ++ [e]).getD E.length 0 = e := by simp

/-- The line of that number. -/
def ln (s : ByteArray) (n : Nat) : ByteArray := s.extract (nx (ends s) n) (en (ends s) s.size n)
theorem size_extract (s : ByteArray) (i j : Nat) (h : i ≤ j) (hj : j ≤ s.size) : (s.extract i j).size = j - i := by
  simp [ByteArray.size_extract]; omega
theorem ln_size (s : ByteArray) (n : Nat) (hn : n ≤ (ends s).length) : (ln s n).size = en (ends s) s.size n - nx (ends s) n := by
  obtain ⟨h1, h2⟩ := nx_le_en (rise_ends s) n hn
  exact size_extract s _ _ h1 h2
theorem ln_le (s : ByteArray) (n : Nat) (hn : n ≤ (ends s).length) : nx (ends s) n + (ln s n).size ≤ s.size := by
  obtain ⟨h1, h2⟩ := nx_le_en (rise_ends s) n hn
  rw [ln_size s n hn]; omega

/-- What is answered. -/
def lineL (s : ByteArray) (n : Int) : ByteArray × Int := if 0 ≤ n ∧ n ≤ ((ends s).length : Int) then (ln s n.toNat, 0) else (⟨#[]⟩, 51)
def offL (s : ByteArray) (l u : Int) : Int × Int :=
  if 0 ≤ l ∧ l ≤ ((ends s).length : Int) then (if (offB (ln s l.toNat) u).2 = 0 then ((nx (ends s) l.toNat : Int) + (offB (ln s l.toNat) u).1, 0) else (0, 51)) else (0, 51)
/-- How many lines end ahead of an offset. -/
def ahead (E : List Nat) (a : Int) : Nat := E.countP (fun e : Nat => decide ((e : Int) < a))
def placeL (s : ByteArray) (a : Int) : Int × Int × Int :=
  if (uniB (ln s (ahead (ends s) a)) (a - nx (ends s) (ahead (ends s) a))).2 = 0 then (ahead (ends s) a, (uniB (ln s (ahead (ends s) a)) (a - nx (ends s) (ahead (ends s) a))).1, 0) else (0, 0, 51)

theorem ahead_le (E : List Nat) (a : Int) : ahead E a ≤ E.length := List.countP_le_length
/-- The lines' ends ahead of an offset are the first ones. -/
theorem countP_first (p : Nat → Bool) : ∀ (E : List Nat), (∀ i j, i < j → j < E.length → p (E.getD j 0) = true → p (E.getD i 0) = true) → ∀ i, i < E.length → (i < E.countP p ↔ p (E.getD i 0) = true)
  | [], _, i, hi => by simp at hi
  | x :: t, h, i, hi => by
    have ht : ∀ i j, i < j → j < t.length → p (t.getD j 0) = true → p (t.getD i 0) = true := by
      intro i j hij hj hp
      have := h (i + 1) (j + 1) (by omega) (by simp; omega) (by simpa using hp)
      simpa using this
    by_cases hx : p x = true
    · rw [List.countP_cons_of_pos hx]
      cases i with
      | zero => simp [hx]
      | succ i =>
        have := countP_first p t ht i (by simpa using hi)
        simp only [List.getD_cons_succ]
        rw [← this]; omega
    · rw [List.countP_cons_of_neg hx]
      have hz : t.countP p = 0 := by
        rw [List.countP_eq_zero]
        intro y hy
        obtain ⟨k, hk, rfl⟩ := List.mem_iff_getElem.1 hy
        intro hp
        have := h 0 (k + 1) (by omega) (by simp; omega) (by simp [List.getD_eq_getElem?_getD, hk, hp])
        simp at this
        exact hx this
      cases i with
      | zero => simp [hz]; simpa using hx
      | succ i =>
        have := countP_first p t ht i (by simpa using hi)
        simp only [List.getD_cons_succ]
        rw [← this, hz]
        constructor
        · intro h; omega
        · intro h; omega
theorem ahead_iff {E : List Nat} {z : Nat} (h : Rise E z) (a : Int) (i : Nat) (hi : i < E.length) : i < ahead E a ↔ (E.getD i 0 : Int) < a := by
  unfold ahead
  rw [countP_first _ E (fun i j hij hj hp => ?_) i hi]
  · simp
  · have := h.less i j hij hj
    simp only [decide_eq_true_eq] at hp ⊢
    omega
/-- The line that an offset is in. -/
theorem ahead_is {E : List Nat} {z : Nat} (h : Rise E z) (a : Int) (n : Nat) (hn : n ≤ E.length) (h1 : (nx E n : Int) ≤ a) (h2 : n < E.length → a ≤ (E.getD n 0 : Int)) : ahead E a = n := by
  have hl := ahead_le E a
  rcases Nat.lt_trichotomy (ahead E a) n with hlt | rfl | hgt
  · obtain ⟨m, rfl⟩ : ∃ m, n = m + 1 := ⟨n - 1, by omega⟩
    rw [nx_succ] at h1
    have := (ahead_iff h a m (by omega)).2 (by omega)
    have h3 : ahead E a = m := by omega
    omega
  · rfl
  · have := (ahead_iff h a n (by omega)).1 hgt
    have := h2 (by omega)
    omega
theorem ahead_bounds {E : List Nat} {z : Nat} (h : Rise E z) (a : Int) (h0 : 0 ≤ a) : (nx E (ahead E a) : Int) ≤ a ∧ (ahead E a < E.length → a ≤ (E.getD (ahead E a) 0 : Int)) := by
  constructor
  · rcases Nat.eq_zero_or_pos (ahead E a) with h1 | h1
    · rw [h1, nx_zero]; simpa using h0
    · obtain ⟨m, hm⟩ : ∃ m, ahead E a = m + 1 := ⟨ahead E a - 1, by omega⟩
      have hl := ahead_le E a
      rw [hm, nx_succ]
      have := (ahead_iff h a m (by omega)).1 (by omega)
      omega
  · intro hlt
    have := mt (ahead_iff h a _ hlt).2 (by omega)
    omega
theorem ahead_low {E : List Nat} (a : Int) (h0 : a < 0) : ahead E a = 0 := by
  unfold ahead
  rw [List.countP_eq_zero]
  intro x _
  simp; omega
theorem nx_mono {E : List Nat} {z : Nat} (h : Rise E z) (i j : Nat) (hij : i < j) (hj : j ≤ E.length) : (en E z i : Int) < nx E j := by
  rw [en_at E z i (by omega)]
  obtain ⟨m, rfl⟩ : ∃ m, j = m + 1 := ⟨j - 1, by omega⟩
  rw [nx_succ]
  rcases Nat.lt_or_ge i m with hlt | hge
  · have := h.less i m hlt (by omega); omega
  · obtain rfl : i = m := by omega
    omega

/-! ### There and back -/
theorem place_or (s : ByteArray) (a : Int) : (∃ n u : Nat, placeL s a = ((n : Int), (u : Int), 0) ∧ n = ahead (ends s) a ∧ n ≤ (ends s).length ∧ u ≤ 2 * s.size ∧ uniB (ln s n) (a - nx (ends s) n) = ((u : Int), 0) ∧ 0 ≤ a ∧ a ≤ s.size) ∨ placeL s a = (0, 0, 51) := by
  have hl := ahead_le (ends s) a
  unfold placeL
  rcases uniB_or (ln s (ahead (ends s) a)) (a - nx (ends s) (ahead (ends s) a)) with ⟨u, h, h1, h2, h3⟩ | h | h
  · rw [h]
    have := ln_le s _ hl
    exact .inl ⟨_, u, by simp, rfl, hl, by omega, h, by omega, by omega⟩
  · rw [h]; exact .inr (by simp)
  · rw [h]; exact .inr (by simp)
theorem off_or' (s : ByteArray) (l u : Int) : (∃ a : Nat, offL s l u = ((a : Int), 0) ∧ a ≤ s.size ∧ 0 ≤ l ∧ l ≤ (ends s).length) ∨ offL s l u = (0, 51) := by
  unfold offL
  split
  · rename_i hl
    have := ln_le s l.toNat (by omega)
    rcases offB_or (ln s l.toNat) u with ⟨a, h, h1⟩ | h | h
    · rw [h]; exact .inl ⟨nx (ends s) l.toNat + a, by simp, by omega, hl.1, hl.2⟩
    · rw [h]; exact .inr (by simp)
    · rw [h]; exact .inr (by simp)
  · exact .inr rfl
theorem place_back (s : ByteArray) (a n u : Int) (h : placeL s a = (n, u, 0)) : offL s n u = (a, 0) := by
  rcases place_or s a with ⟨m, v, h1, h2, h3, h4, h5, h6, h7⟩ | h1
  · rw [h] at h1
    simp only [Prod.mk.injEq, and_true] at h1
    obtain ⟨rfl, rfl⟩ := h1
    obtain ⟨k1, k2, k3, k4, k5⟩ := uniB_there _ _ _ h5
    unfold offL
    rw [if_pos ⟨by omega, by omega⟩, Int.toNat_natCast, k5]
    simp
    omega
  · rw [h] at h1; simp at h1
theorem place_less (s : ByteArray) (a b n u m v : Int) (h : placeL s a = (n, u, 0)) (k : placeL s b = (m, v, 0)) : ((n < m ∨ n = m ∧ u < v) ↔ a < b) := by
  rcases place_or s a with ⟨n', u', h1, h2, h3, h4, h5, h6, h7⟩ | h1
  · rcases place_or s b with ⟨m', v', k1, k2, k3, k4, k5, k6, k7⟩ | k1
    · rw [h] at h1; rw [k] at k1
      simp only [Prod.mk.injEq, and_true] at h1 k1
      obtain ⟨rfl, rfl⟩ := h1
      obtain ⟨rfl, rfl⟩ := k1
      obtain ⟨a1, a2, _⟩ := uniB_there _ _ _ h5
      obtain ⟨b1, b2, _⟩ := uniB_there _ _ _ k5
      rw [ln_size s _ h3] at a2
      rw [ln_size s _ k3] at b2
      have ha := nx_le_en (rise_ends s) n' h3
      have hb := nx_le_en (rise_ends s) m' k3
      rcases Nat.lt_trichotomy n' m' with hlt | heq | hgt
      · have := nx_mono (rise_ends s) n' m' hlt k3
        constructor
        · intro _; omega
        · intro _; left; omega
      · subst heq
        rcases Int.lt_trichotomy a b with l | l | l
        · have := uniB_less _ _ _ _ _ h5 k5 (by omega)
          constructor
          · intro _; exact l
          · intro _; right; exact ⟨rfl, this⟩
        · subst l
          rw [h5] at k5
          simp only [Prod.mk.injEq, and_true] at k5
          constructor
          · intro h; omega
          · intro h; omega
        · have := uniB_less _ _ _ _ _ k5 h5 (by omega)
          constructor
          · intro h; omega
          · intro h; omega
      · have := nx_mono (rise_ends s) m' n' hgt h3
        constructor
        · intro h; omega
        · intro h; omega
    · rw [k] at k1; simp at k1
  · rw [h] at h1; simp at h1

/-! ### One behind the other -/
def joined (a b : ByteArray) : ByteArray := a ++ ⟨#[10]⟩ ++ b
theorem joined_size (a b : ByteArray) : (joined a b).size = a.size + 1 + b.size := by unfold joined; rw [size_append, size_append]; rfl
theorem joined_left (a b : ByteArray) (i : Nat) (h : i < a.size) : (joined a b).get! i = a.get! i := by
  unfold joined; rw [get!_left _ _ _ (by rw [size_append]; omega), get!_left _ _ _ h]
theorem joined_mid (a b : ByteArray) : ((joined a b).get! a.size).toNat = 10 := by
  unfold joined
  rw [get!_left _ _ _ (by rw [size_append]; show a.size < a.size + 1; omega)]
  have := get!_right a ⟨#[10]⟩ 0
  rw [Nat.add_zero] at this
  rw [this]; rfl
theorem joined_right (a b : ByteArray) (i : Nat) : (joined a b).get! (a.size + 1 + i) = b.get! i := by
  unfold joined
  have := get!_right (a ++ ⟨#[10]⟩) b i
  rw [size_append] at this
  exact this
theorem ends_joined (a b : ByteArray) : ends (joined a b) = ends a ++ a.size :: (ends b).map (fun e => a.size + 1 + e) := by
  unfold ends endsTo
  rw [joined_size, List.range_add, List.range_succ, List.filter_append, List.filter_append]
  have h1 : (List.range a.size).filter (nlAt (joined a b)) = (List.range a.size).filter (nlAt a) := by
    apply List.filter_congr
    intro i hi
    unfold nlAt; rw [joined_left a b i (by simpa using hi)]
  have h2 : [a.size].filter (nlAt (joined a b)) = [a.size] := by
    have : nlAt (joined a b) a.size = true := by unfold nlAt; rw [joined_mid]; rfl
    simp [this]
  have h3 : ((List.range b.size).map (fun x => a.size + 1 + x)).filter (nlAt (joined a b)) = ((List.range b.size).filter (nlAt b)).map (fun e => a.size + 1 + e) := by
    rw [List.filter_map]
    congr 1
    apply List.filter_congr
    intro i _
    simp only [Function.comp]
    unfold nlAt; rw [joined_right]
  rw [h1, h2, h3]
  simp
theorem okB_nl : okB ⟨#[10]⟩ = true := by kernel_rfl
theorem okB_joined (a b : ByteArray) (ha : okB a = true) (hb : okB b = true) : okB (joined a b) = true := okB_append _ _ (okB_append _ _ ha okB_nl) hb
theorem ends_joined_len (a b : ByteArray) : (ends (joined a b)).length = (ends a).length + 1 + (ends b).length := by rw [ends_joined]; simp; omega
theorem getD_app1 (x y : List Nat) (i : Nat) (h : i < x.length) : (x ++ y).getD i 0 = x.getD i 0 := by
  rw [List.getD_eq_getElem?_getD, List.getElem?_append_left h, ← List.getD_eq_getElem?_getD]
theorem getD_app2 (x y : List Nat) (i : Nat) : (x ++ y).getD (x.length + i) 0 = y.getD i 0 := by
  rw [List.getD_eq_getElem?_getD, List.getElem?_append_right (by omega), Nat.add_sub_cancel_left, ← List.getD_eq_getElem?_getD]
theorem getD_map_add (l : List Nat) (k i : Nat) (h : i < l.length) : (l.map (fun e => k + e)).getD i 0 = k + l.getD i 0 := by
  rw [List.getD_eq_getElem?_getD, List.getD_eq_getElem?_getD]
  simp [h]
theorem nx_left (a b : ByteArray) (n : Nat) (h : n ≤ (ends a).length) : nx (ends (joined a b)) n = nx (ends a) n := by
  unfold nx; split
  · rfl
  · rw [ends_joined, getD_app1 _ _ _ (by omega)]
theorem en_left (a b : ByteArray) (n : Nat) (h : n ≤ (ends a).length) : en (ends (joined a b)) (joined a b).size n = en (ends a) a.size n := by
  rw [en_at _ _ _ (by rw [ends_joined_len]; omega), ends_joined]
  rcases Nat.lt_or_ge n (ends a).length with hlt | hge
  · rw [getD_app1 _ _ _ hlt, en_at _ _ _ hlt]
  · obtain rfl : n = (ends a).length := by omega
    have := getD_app2 (ends a) (a.size :: (ends b).map (fun e => a.size + 1 + e)) 0
    rw [Nat.add_zero] at this
    rw [en_last]; exact this
theorem nx_right (a b : ByteArray) (n : Nat) (h : n ≤ (ends b).length) : nx (ends (joined a b)) ((ends a).length + 1 + n) = a.size + 1 + nx (ends b) n := by
  rw [show (ends a).length + 1 + n = (ends a).length + n + 1 by omega, nx_succ, ends_joined, getD_app2]
  cases n with
  | zero => simp [nx_zero]
  | succ n => rw [nx_succ, List.getD_cons_succ, getD_map_add _ _ _ (by omega)]; omega
theorem en_right (a b : ByteArray) (n : Nat) (h : n ≤ (ends b).length) : en (ends (joined a b)) (joined a b).size ((ends a).length + 1 + n) = a.size + 1 + en (ends b) b.size n := by
  rcases Nat.lt_or_ge n (ends b).length with hlt | hge
  · rw [en_at _ _ _ (by rw [ends_joined_len]; omega), en_at _ _ _ hlt, show (ends a).length + 1 + n = (ends a).length + (n + 1) by omega, ends_joined, getD_app2, List.getD_cons_succ, getD_map_add _ _ _ hlt]
  · obtain rfl : n = (ends b).length := by omega
    have : (ends a).length + 1 + (ends b).length = (ends (joined a b)).length := by rw [ends_joined_len]
    rw [this, en_last, en_last, joined_size]
theorem extract_app1 (a b : ByteArray) (i j : Nat) (h : j ≤ a.size) : (a ++ b).extract i j = a.extract i j := by
  apply ByteArray.ext
  simp only [ByteArray.data_extract, ByteArray.data_append]
  rw [Array.extract_append]
  have h2 : a.data.size = a.size := rfl
  have : b.data.extract (i - a.data.size) (j - a.data.size) = #[] := by
    apply Array.extract_empty_of_stop_le_start
    omega
  rw [this]; simp
theorem extract_app2 (a b : ByteArray) (i j : Nat) : (a ++ b).extract (a.size + i) (a.size + j) = b.extract i j := by
  apply ByteArray.ext
  simp only [ByteArray.data_extract, ByteArray.data_append]
  rw [Array.extract_append]
  have h2 : a.data.size = a.size := rfl
  have : a.data.extract (a.size + i) (a.size + j) = #[] := by
    apply Array.extract_empty_of_size_le_start
    omega
  rw [this, h2]; simp
theorem ln_left (a b : ByteArray) (n : Nat) (h : n ≤ (ends a).length) : ln (joined a b) n = ln a n := by
  obtain ⟨h1, h2⟩ := nx_le_en (rise_ends a) n h
  unfold ln
  rw [nx_left a b n h, en_left a b n h]
  unfold joined
  rw [extract_app1 _ _ _ _ (by rw [size_append]; omega), extract_app1 _ _ _ _ h2]
theorem ln_right (a b : ByteArray) (n : Nat) (h : n ≤ (ends b).length) : ln (joined a b) ((ends a).length + 1 + n) = ln b n := by
  unfold ln
  rw [nx_right a b n h, en_right a b n h]
  unfold joined
  have := extract_app2 (a ++ ⟨#[10]⟩) b (nx (ends b) n) (en (ends b) b.size n)
  rw [size_append] at this
  exact this
theorem off_left (a b : ByteArray) (l u : Int) (x : Int) (h : offL a l u = (x, 0)) : offL (joined a b) l u = (x, 0) := by
  unfold offL at *
  by_cases hl : 0 ≤ l ∧ l ≤ ((ends a).length : Int)
  · rw [if_pos hl] at h
    rw [if_pos ⟨hl.1, by rw [ends_joined_len]; omega⟩, ln_left a b _ (by omega), nx_left a b _ (by omega)]
    exact h
  · rw [if_neg hl] at h; simp at h
theorem off_right (a b : ByteArray) (l u : Int) (h0 : 0 ≤ l) : offL (joined a b) (l + ((ends a).length + 1 : Nat)) u = if (offL b l u).2 = 0 then (a.size + 1 + (offL b l u).1, 0) else (0, 51) := by
  unfold offL
  by_cases hl : 0 ≤ l ∧ l ≤ ((ends b).length : Int)
  · have e : (l + ((ends a).length + 1 : Nat)).toNat = (ends a).length + 1 + l.toNat := by omega
    rw [if_pos ⟨by omega, by rw [ends_joined_len]; omega⟩, if_pos hl, e, ln_right a b _ (by omega), nx_right a b _ (by omega)]
    split
    · rw [if_pos rfl]; congr 1; simp only; omega
    · rw [if_neg (by simp)]
  · rw [if_neg hl, if_neg (by rw [ends_joined_len]; omega)]; simp
end Go.Proofs.YtnjhmjkonmmomaaDoor.L
end
/- LBnd: Plain facts about where scalars begin in a right text: every beginning that ends there is right, every ending that begins there; bytes 10, and places of lines, are such. It imports nothing of the program. -/
section
namespace Go.Proofs.YtnjhmjkonmmomaaDoor.L
open Go.Lib Go.Proofs.YtnjhmjkonmmomaaDoor.U

theorem okL_app (x y : List (Nat × Nat)) : okL (x ++ y) = true ↔ okL x = true ∧ okL y = true := by rw [okL_append, Bool.and_eq_true]
/-- A scalar that fits is read as it is read with more bytes behind. -/
theorem decodeN_fit (n k b0 b1 b2 b3 c1 c2 c3 : Nat) (hn : 1 ≤ n) (h1 : 1 < n → c1 = b1) (h2 : 2 < n → c2 = b2) (h3 : 3 < n → c3 = b3)
    (hw : (decodeN (n + k) b0 c1 c2 c3).2 ≤ n) (hok : ¬ ((decodeN (n + k) b0 c1 c2 c3).1 = 65533 ∧ (decodeN (n + k) b0 c1 c2 c3).2 = 1)) : decodeN n b0 b1 b2 b3 = decodeN (n + k) b0 c1 c2 c3 := by
  unfold decodeN at hw hok ⊢
  by_cases c0 : b0 < 128
  · simp [c0]
  · rw [if_neg c0] at hw hok ⊢
    rw [if_neg c0]
    by_cases q1 : b0 / 32 = 6 ∧ (1 < n + k ∧ c1 / 64 = 2)
    · by_cases hn1 : 1 < n
      · have e1 := h1 hn1
        subst e1
        rw [if_pos q1, if_pos ⟨q1.1, hn1, q1.2.2⟩]
      · rw [if_pos q1] at hw hok
        exfalso
        split at hw <;> split at hok <;> simp at hw hok <;> omega
    · rw [if_neg q1] at hw hok ⊢
      rw [if_neg (fun q => q1 ⟨q.1, by omega, by rw [h1 q.2.1]; exact q.2.2⟩)]
      by_cases q2 : b0 / 16 = 14 ∧ (1 < n + k ∧ c1 / 64 = 2) ∧ (2 < n + k ∧ c2 / 64 = 2)
      · by_cases hn2 : 2 < n
        · have e1 := h1 (by omega)
          have e2 := h2 hn2
          subst e1; subst e2
          rw [if_pos q2, if_pos ⟨q2.1, ⟨by omega, q2.2.1.2⟩, hn2, q2.2.2.2⟩]
        · rw [if_pos q2] at hw hok
          exfalso
          split at hw <;> split at hok <;> simp at hw hok <;> omega
      · rw [if_neg q2] at hw hok ⊢
        rw [if_neg (fun q => q2 ⟨q.1, ⟨by omega, by rw [h1 q.2.1.1]; exact q.2.1.2⟩, by omega, by rw [h2 q.2.2.1]; exact q.2.2.2⟩)]
        by_cases q3 : b0 / 8 = 30 ∧ (1 < n + k ∧ c1 / 64 = 2) ∧ (2 < n + k ∧ c2 / 64 = 2) ∧ (3 < n + k ∧ c3 / 64 = 2)
        · by_cases hn3 : 3 < n
          · have e1 := h1 (by omega)
            have e2 := h2 (by omega)
            have e3 := h3 hn3
            subst e1; subst e2; subst e3
            rw [if_pos q3, if_pos ⟨q3.1, ⟨by omega, q3.2.1.2⟩, ⟨by omega, q3.2.2.1.2⟩, hn3, q3.2.2.2.2⟩]
          · rw [if_pos q3] at hw hok
            exfalso
            split at hw <;> split at hok <;> simp at hw hok <;> omega
        · rw [if_neg q3] at hok
          simp at hok
theorem decode_fit (a b : ByteArray) (pos : Nat) (h : pos < a.size) (hw : pos + (Utf8.decode (a ++ b) pos).2 ≤ a.size) (hok : ¬ ((Utf8.decode (a ++ b) pos).1 = 65533 ∧ (Utf8.decode (a ++ b) pos).2 = 1)) : Utf8.decode a pos = Utf8.decode (a ++ b) pos := by
  have e : (a ++ b).size - pos = (a.size - pos) + b.size := by rw [size_append]; omega
  rw [decode_at, e] at hw hok
  rw [decode_at, decode_at, e]
  rw [get!_left a b pos h] at hw hok ⊢
  refine decodeN_fit _ _ _ _ _ _ _ _ _ (by omega) (fun h1 => ?_) (fun h1 => ?_) (fun h1 => ?_) (by omega) hok
  · rw [get!_left a b _ (by omega)]
  · rw [get!_left a b _ (by omega)]
  · rw [get!_left a b _ (by omega)]
/-- Where a scalar begins, or the text ends. -/
def Bnd (s : ByteArray) (a : Nat) : Prop := ∃ l1 l2, items s = l1 ++ l2 ∧ sumW l1 = a
theorem bnd_zero (s : ByteArray) : Bnd s 0 := ⟨[], items s, rfl, rfl⟩
theorem bnd_size (s : ByteArray) : Bnd s s.size := ⟨items s, [], by simp, sumW_items s⟩
theorem bnd_le {s : ByteArray} {a : Nat} (h : Bnd s a) : a ≤ s.size := by
  obtain ⟨l1, l2, h1, rfl⟩ := h
  rw [← sumW_items s, h1, sumW_append]; omega
/-- The items of a beginning and of an ending that meet where a scalar begins. -/
theorem itemsF_parts (p q : ByteArray) : ∀ (l1 l2 : List (Nat × Nat)) (f pos : Nat), (p ++ q).size - pos ≤ f → okL (l1 ++ l2) = true → itemsF (p ++ q) f pos = l1 ++ l2 → pos + sumW l1 = p.size →
    (∀ g, p.size - pos ≤ g → itemsF p g pos = l1) ∧ l2 = items q
  | [], l2, f, pos, hf, hok, h, hp => by
    simp only [sumW, Nat.add_zero] at hp
    subst hp
    refine ⟨fun g _ => itemsF_end p g _ (by omega), ?_⟩
    have hr := itemsF_right p q f 0
    rw [Nat.add_zero] at hr
    rw [List.nil_append] at h
    rw [← h, hr]
    exact itemsF_fuel q _ _ 0 (by rw [size_append] at hf; omega) (by omega)
  | x :: t, l2, f, pos, hf, hok, h, hp => by
    simp only [sumW] at hp
    by_cases hlt : pos < (p ++ q).size
    · obtain ⟨f, rfl⟩ : ∃ k, f = k + 1 := ⟨f - 1, by omega⟩
      have hw := width_pos (p ++ q) pos hlt
      rw [itemsF_step _ f pos hlt, List.cons_append, List.cons.injEq] at h
      obtain ⟨rfl, h⟩ := h
      have hpl : pos < p.size := by omega
      simp only [List.cons_append, okL] at hok
      split at hok
      · cases hok
      · rename_i hne
        obtain ⟨k1, k2⟩ := itemsF_parts p q t l2 f _ (by omega) hok h (by omega)
        refine ⟨fun g hg => ?_, k2⟩
        obtain ⟨g, rfl⟩ : ∃ k, g = k + 1 := ⟨g - 1, by omega⟩
        have hd := decode_fit p q pos hpl (by omega) hne
        rw [itemsF_step p g pos hpl, hd, k1 g (by omega)]
    · rw [itemsF_end _ f pos hlt] at h
      simp at h
theorem items_parts (p q : ByteArray) (l1 l2 : List (Nat × Nat)) (hok : okB (p ++ q) = true) (h : items (p ++ q) = l1 ++ l2) (hp : sumW l1 = p.size) : items p = l1 ∧ items q = l2 ∧ okB p = true ∧ okB q = true := by
  have hok' : okL (l1 ++ l2) = true := by rw [← h]; exact hok
  obtain ⟨k1, k2⟩ := itemsF_parts p q l1 l2 (p ++ q).size 0 (by omega) hok' h (by omega)
  have e1 : items p = l1 := k1 _ (by omega)
  refine ⟨e1, k2.symm, ?_, ?_⟩
  · unfold okB; rw [e1]; exact ((okL_app l1 l2).1 hok').1
  · unfold okB; rw [← k2]; exact ((okL_app l1 l2).1 hok').2
theorem cut_app (s : ByteArray) (a : Nat) (h : a ≤ s.size) : s.extract 0 a ++ s.extract a s.size = s := by
  apply ByteArray.ext
  simp only [ByteArray.data_append, ByteArray.data_extract]
  rw [Array.extract_append_extract]
  have h2 : s.data.size = s.size := rfl
  rw [Nat.min_eq_left (Nat.zero_le _), Nat.max_eq_right h, ← h2, Array.extract_size]
/-- A right text, cut where a scalar begins: both parts are right. -/
theorem cut_ok {s : ByteArray} {a : Nat} (hok : okB s = true) (h : Bnd s a) : okB (s.extract 0 a) = true ∧ okB (s.extract a s.size) = true ∧ items s = items (s.extract 0 a) ++ items (s.extract a s.size) := by
  have hle := bnd_le h
  obtain ⟨l1, l2, h1, h2⟩ := h
  have e := cut_app s a hle
  have hz : (s.extract 0 a).size = a := by rw [size_extract s 0 a (by omega) hle]; omega
  obtain ⟨k1, k2, k3, k4⟩ := items_parts (s.extract 0 a) (s.extract a s.size) l1 l2 (by rw [e]; exact hok) (by rw [e]; exact h1) (by rw [hz]; exact h2)
  exact ⟨k3, k4, by rw [k1, k2]; exact h1⟩
theorem bnd_iff {s : ByteArray} {a : Nat} (hok : okB s = true) (ha : a ≤ s.size) : Bnd s a ↔ okB (s.extract 0 a) = true := by
  constructor
  · intro h; exact (cut_ok hok h).1
  · intro h
    have e := items_append (s.extract 0 a) (s.extract a s.size) h
    rw [cut_app s a ha] at e
    exact ⟨_, _, e, by rw [sumW_items, size_extract s 0 a (by omega) ha]; omega⟩
theorem bnd_app_left {p q : ByteArray} {a : Nat} (hp : okB p = true) (h : Bnd p a) : Bnd (p ++ q) a := by
  obtain ⟨l1, l2, h1, h2⟩ := h
  exact ⟨l1, l2 ++ items q, by rw [items_append p q hp, h1, List.append_assoc], h2⟩
theorem bnd_app_right {p q : ByteArray} {a : Nat} (hp : okB p = true) (h : Bnd q a) : Bnd (p ++ q) (p.size + a) := by
  obtain ⟨l1, l2, h1, h2⟩ := h
  exact ⟨items p ++ l1, l2, by rw [items_append p q hp, h1, List.append_assoc], by rw [sumW_append, sumW_items, h2]⟩
/-- Between two places where scalars begin. -/
theorem mid_ok {s : ByteArray} {a b : Nat} (hok : okB s = true) (ha : Bnd s a) (hb : Bnd s b) (hab : a ≤ b) : okB (s.extract a b) = true := by
  obtain ⟨k1, k2, k3⟩ := cut_ok hok ha
  obtain ⟨l1, l2, h1, h2⟩ := hb
  have hza : (s.extract 0 a).size = a := by rw [size_extract s 0 a (by omega) (bnd_le ha)]; omega
  have hble : b ≤ s.size := bnd_le ⟨l1, l2, h1, h2⟩
  -- the items of the beginning are a part of l1
  obtain ⟨m, hm⟩ : ∃ m, l1 = items (s.extract 0 a) ++ m := by
    have e : items (s.extract 0 a) ++ items (s.extract a s.size) = l1 ++ l2 := by rw [← k3, h1]
    rcases List.append_eq_append_iff.1 e with ⟨m, h3, _⟩ | ⟨m, h3, h4⟩
    · exact ⟨m, h3⟩
    · have e3 : sumW (items (s.extract 0 a)) = a := by rw [sumW_items, hza]
      rw [h3, sumW_append, h2] at e3
      have hm0 : sumW m = 0 := by omega
      have hwide : Wide m := fun x hx => itemsF_wide s s.size 0 x (by show x ∈ items s; rw [h1, h4]; simp [hx])
      cases m with
      | nil => exact ⟨[], by simpa using h3.symm⟩
      | cons x t => have := hwide x (by simp); simp only [sumW] at hm0; omega
  have hq : Bnd (s.extract a s.size) (b - a) := by
    refine ⟨m, l2, ?_, ?_⟩
    · have e : items (s.extract 0 a) ++ items (s.extract a s.size) = items (s.extract 0 a) ++ (m ++ l2) := by rw [← k3, h1, hm, List.append_assoc]
      exact List.append_cancel_left e
    · rw [hm, sumW_append, sumW_items, hza] at h2; omega
  have := (cut_ok k2 hq).1
  have e : (s.extract a s.size).extract 0 (b - a) = s.extract a b := by
    apply ByteArray.ext
    simp only [ByteArray.data_extract, Array.extract_extract]
    congr 1
    omega
  rw [e] at this
  exact this

/-! ### Bytes 10, and places -/
theorem decodeN_low (n b0 b1 b2 b3 : Nat) (h : b0 < 128) : decodeN n b0 b1 b2 b3 = (b0, 1) := by unfold decodeN; rw [if_pos h]
/-- Of a right scalar of several bytes none but the first is below 128. -/
theorem decodeN_rest (n b0 b1 b2 b3 : Nat) (hok : ¬ ((decodeN n b0 b1 b2 b3).1 = 65533 ∧ (decodeN n b0 b1 b2 b3).2 = 1)) :
    (1 < (decodeN n b0 b1 b2 b3).2 → 128 ≤ b0 ∧ 128 ≤ b1) ∧ (2 < (decodeN n b0 b1 b2 b3).2 → 128 ≤ b2) ∧ (3 < (decodeN n b0 b1 b2 b3).2 → 128 ≤ b3) := by
  unfold decodeN at hok ⊢
  by_cases c0 : b0 < 128
  · rw [if_pos c0]; simp
  · rw [if_neg c0] at hok ⊢
    by_cases q1 : b0 / 32 = 6 ∧ (1 < n ∧ b1 / 64 = 2)
    · rw [if_pos q1] at hok ⊢
      split <;> simp <;> omega
    · rw [if_neg q1] at hok ⊢
      by_cases q2 : b0 / 16 = 14 ∧ (1 < n ∧ b1 / 64 = 2) ∧ (2 < n ∧ b2 / 64 = 2)
      · rw [if_pos q2] at hok ⊢
        split <;> simp <;> omega
      · rw [if_neg q2] at hok ⊢
        by_cases q3 : b0 / 8 = 30 ∧ (1 < n ∧ b1 / 64 = 2) ∧ (2 < n ∧ b2 / 64 = 2) ∧ (3 < n ∧ b3 / 64 = 2)
        · rw [if_pos q3] at hok ⊢
          split <;> simp <;> omega
        · rw [if_neg q3] at hok; simp at hok
theorem decodeN_wide (n b0 b1 b2 b3 : Nat) : (decodeN n b0 b1 b2 b3).2 ≤ 4 := by
  unfold decodeN
  repeat' split
  all_goals (simp only; omega)
/-- A byte below 128 within a right text is a scalar of its own. -/
theorem low_here (s : ByteArray) : ∀ (f pos i : Nat), s.size - pos ≤ f → okL (itemsF s f pos) = true → pos ≤ i → i < s.size → (s.get! i).toNat < 128 → ∃ l1 l2, itemsF s f pos = l1 ++ (s.get! i |>.toNat, 1) :: l2 ∧ pos + sumW l1 = i
  | 0, pos, i, hf, _, hp, hi, _ => by omega
  | f + 1, pos, i, hf, hok, hp, hi, hlow => by
    have hlt : pos < s.size := by omega
    rw [itemsF_step s f pos hlt] at hok ⊢
    simp only [okL] at hok
    split at hok
    · cases hok
    · rename_i hne
      rcases Nat.lt_or_ge pos i with h1 | h1
      · have hw := width_pos s pos hlt
        by_cases h2 : i < pos + (Utf8.decode s pos).2
        · exfalso
          have hd := decode_at s pos
          rw [hd] at hne h2
          have hr := decodeN_rest _ _ _ _ _ hne
          have h4 := decodeN_wide (s.size - pos) (s.get! pos).toNat (s.get! (pos + 1)).toNat (s.get! (pos + 2)).toNat (s.get! (pos + 3)).toNat
          rcases Nat.lt_or_ge (i - pos) 2 with h | h
          · obtain rfl : i = pos + 1 := by omega
            have := (hr.1 (by omega)).2; omega
          · rcases Nat.lt_or_ge (i - pos) 3 with h | h
            · obtain rfl : i = pos + 2 := by omega
              have := hr.2.1 (by omega); omega
            · obtain rfl : i = pos + 3 := by omega
              have := hr.2.2 (by omega); omega
        · obtain ⟨l1, l2, e1, e2⟩ := low_here s f _ i (by omega) hok (by omega) hi hlow
          exact ⟨Utf8.decode s pos :: l1, l2, by rw [e1]; rfl, by simp only [sumW]; omega⟩
      · obtain rfl : i = pos := by omega
        refine ⟨[], itemsF s f (i + (Utf8.decode s i).2), ?_, by simp [sumW]⟩
        rw [List.nil_append]
        congr 1
        rw [decode_at, decodeN_low _ _ _ _ _ hlow]
theorem bnd_low {s : ByteArray} {i : Nat} (hok : okB s = true) (hi : i < s.size) (hlow : (s.get! i).toNat < 128) : Bnd s i ∧ Bnd s (i + 1) := by
  obtain ⟨l1, l2, h1, h2⟩ := low_here s s.size 0 i (by omega) hok (by omega) hi hlow
  refine ⟨⟨l1, _, h1, by omega⟩, ⟨l1 ++ [(_, 1)], l2, by rw [List.append_assoc]; exact h1, ?_⟩⟩
  rw [sumW_append]; simp only [sumW]; omega
theorem ends_mem {s : ByteArray} {x : Nat} (h : x ∈ ends s) : x < s.size ∧ (s.get! x).toNat = 10 := by
  unfold ends endsTo at h
  rw [List.mem_filter] at h
  refine ⟨by simpa using h.1, ?_⟩
  have := h.2
  unfold nlAt at this
  simpa using this
theorem ends_nl {s : ByteArray} {i : Nat} (h : i < (ends s).length) : (ends s).getD i 0 < s.size ∧ (s.get! ((ends s).getD i 0)).toNat = 10 := by
  refine ends_mem ?_
  rw [List.getD_eq_getElem?_getD, List.getElem?_eq_getElem h, Option.getD_some]; exact List.getElem_mem h
/-- A line begins, and ends, where a scalar begins, or the text ends; it is right. -/
theorem line_bnd {s : ByteArray} {n : Nat} (hok : okB s = true) (hn : n ≤ (ends s).length) : Bnd s (nx (ends s) n) ∧ Bnd s (en (ends s) s.size n) := by
  constructor
  · cases n with
    | zero => rw [nx_zero]; exact bnd_zero s
    | succ n =>
      rw [nx_succ]
      obtain ⟨h1, h2⟩ := ends_nl (s := s) (i := n) (by omega)
      exact (bnd_low hok h1 (by omega)).2
  · by_cases h : n < (ends s).length
    · rw [en_at _ _ _ h]
      obtain ⟨h1, h2⟩ := ends_nl h
      exact (bnd_low hok h1 (by omega)).1
    · obtain rfl : n = (ends s).length := by omega
      rw [en_last]; exact bnd_size s
theorem line_ok {s : ByteArray} {n : Nat} (hok : okB s = true) (hn : n ≤ (ends s).length) : okB (ln s n) = true :=
  mid_ok hok (line_bnd hok hn).1 (line_bnd hok hn).2 (nx_le_en (rise_ends s) n hn).1
theorem off_bnd : ∀ (l : List (Nat × Nat)) (pos ahead : Nat) (unit : Int) (a : Nat), off l pos ahead unit = ((a : Int), 0) → ∃ l1 l2, l = l1 ++ l2 ∧ pos + sumW l1 = a
  | [], pos, ahead, unit, a, h => by
    simp only [off] at h
    split at h
    · simp only [Prod.mk.injEq, and_true] at h; exact ⟨[], [], rfl, by simp only [sumW]; omega⟩
    · simp at h
  | x :: t, pos, ahead, unit, a, h => by
    simp only [off] at h
    split at h
    · simp only [Prod.mk.injEq, and_true] at h; exact ⟨[], x :: t, rfl, by simp only [sumW]; omega⟩
    · obtain ⟨l1, l2, h1, h2⟩ := off_bnd t _ _ unit a h
      exact ⟨x :: l1, l2, by rw [h1]; rfl, by simp only [sumW]; omega⟩
theorem bnd_up {s : ByteArray} {b e x : Nat} (hok : okB s = true) (hb : Bnd s b) (he : Bnd s e) (hbe : b ≤ e) (hx : Bnd (s.extract b e) x) : Bnd s (b + x) := by
  have hle := bnd_le he
  obtain ⟨k1, k2, k3⟩ := cut_ok hok he
  have hm := mid_ok hok hb he hbe
  have e1 : s.extract 0 e = s.extract 0 b ++ s.extract b e := by
    apply ByteArray.ext
    simp only [ByteArray.data_append, ByteArray.data_extract]
    rw [Array.extract_append_extract, Nat.min_eq_left (Nat.zero_le _), Nat.max_eq_right hbe]
  have h1 := bnd_app_right (q := s.extract b e) (cut_ok hok hb).1 hx
  rw [← e1, size_extract s 0 b (by omega) (by omega), Nat.sub_zero] at h1
  have h2 := bnd_app_left (q := s.extract e s.size) k1 h1
  rw [cut_app s e hle] at h2
  exact h2
/-- The offset of a place is one where a scalar begins, or the text ends. -/
theorem offL_bnd {s : ByteArray} {l u : Int} {a : Nat} (hok : okB s = true) (h : offL s l u = ((a : Int), 0)) : Bnd s a := by
  unfold offL at h
  split at h
  · rename_i hl
    have hn : l.toNat ≤ (ends s).length := by omega
    rcases offB_or (ln s l.toNat) u with ⟨x, hx, hxz⟩ | hx | hx
    · rw [hx] at h
      simp only [if_true, Prod.mk.injEq, and_true] at h
      have hb : Bnd (ln s l.toNat) x := by
        unfold offB at hx
        rw [if_pos (line_ok hok hn)] at hx
        obtain ⟨l1, l2, h1, h2⟩ := off_bnd _ _ _ _ _ hx
        exact ⟨l1, l2, h1, by omega⟩
      have := bnd_up hok (line_bnd hok hn).1 (line_bnd hok hn).2 (nx_le_en (rise_ends s) _ hn).1 hb
      rw [show nx (ends s) l.toNat + x = a by omega] at this
      exact this
    · rw [hx] at h; simp at h
    · rw [hx] at h; simp at h
  · simp at h
theorem uni_bnd : ∀ (l1 l2 : List (Nat × Nat)) (pos ahead : Nat), Wide (l1 ++ l2) → uni (l1 ++ l2) pos ahead ((pos + sumW l1 : Nat) : Int) = (((ahead + sumU l1 : Nat) : Int), 0)
  | [], l2, pos, ahead, _ => by simp only [sumW, sumU, Nat.add_zero, List.nil_append]; exact uni_hit _ _ _ _ rfl
  | x :: t, l2, pos, ahead, hw => by
    have hx := hw x (by simp)
    simp only [List.cons_append, uni, sumW, sumU]
    rw [if_neg (by omega)]
    have := uni_bnd t l2 (pos + x.2) (ahead + uw x.1) (fun y hy => hw y (by simp only [List.cons_append]; exact List.mem_cons_of_mem _ hy))
    rw [show pos + x.2 + sumW t = pos + (x.2 + sumW t) by omega, show ahead + uw x.1 + sumU t = ahead + (uw x.1 + sumU t) by omega] at this
    exact this
theorem bnd_down {s : ByteArray} {b e x : Nat} (hok : okB s = true) (hb : Bnd s b) (he : Bnd s e) (hx : Bnd s x) (h1 : b ≤ x) (h2 : x ≤ e) : Bnd (s.extract b e) (x - b) := by
  have hm := mid_ok hok hb he (by omega)
  have hle := bnd_le he
  rw [bnd_iff hm (by rw [size_extract s b e (by omega) hle]; omega)]
  have e1 : (s.extract b e).extract 0 (x - b) = s.extract b x := by
    apply ByteArray.ext
    simp only [ByteArray.data_extract, Array.extract_extract]
    congr 1
    omega
  rw [e1]
  exact mid_ok hok hb hx h1
/-- Where a scalar begins, and at the end, there is a place. -/
theorem placeL_bnd {s : ByteArray} {x : Nat} (hok : okB s = true) (h : Bnd s x) : ∃ n u : Nat, placeL s x = ((n : Int), (u : Int), 0) := by
  have hxz := bnd_le h
  have hn := ahead_le (ends s) (x : Int)
  obtain ⟨b1, b2⟩ := ahead_bounds (rise_ends s) (x : Int) (by omega)
  have he : x ≤ en (ends s) s.size (ahead (ends s) x) := by
    by_cases hlt : ahead (ends s) (x : Int) < (ends s).length
    · rw [en_at _ _ _ hlt]; have := b2 hlt; omega
    · have e1 : ahead (ends s) (x : Int) = (ends s).length := by omega
      rw [e1, en_last]; exact hxz
  have hb := bnd_down hok (line_bnd hok hn).1 (line_bnd hok hn).2 h (by omega) he
  obtain ⟨l1, l2, h1, h2⟩ := hb
  have hu : uniB (ln s (ahead (ends s) (x : Int))) ((x : Int) - (nx (ends s) (ahead (ends s) (x : Int)) : Int)) = (((0 + sumU l1 : Nat) : Int), 0) := by
    unfold uniB
    rw [if_pos (line_ok hok hn)]
    have := uni_bnd l1 l2 0 0 (by rw [← h1]; exact itemsF_wide _ _ _)
    rw [← h1] at this
    rw [show (x : Int) - (nx (ends s) (ahead (ends s) (x : Int)) : Int) = ((0 + sumW l1 : Nat) : Int) by omega]
    exact this
  refine ⟨ahead (ends s) x, 0 + sumU l1, ?_⟩
  unfold placeL
  rw [hu]
  simp
end Go.Proofs.YtnjhmjkonmmomaaDoor.L
end
/- RefAll: Plain facts under the document's own answer for layer 1: the first scalar of a text by its bytes is the decoder's, or none; the places of all scalars, as two lists; what is found in them is what the calls answer. It imports nothing of the program. Contract of the document's own answer for the first scalar of a text (boltholeref01.scalar): it is the decoder's, or none, at every text that is not empty; memory is left alone. The first scalar of a text, by the document's own answer: one byte, and two. The first scalar of a text, by the document's own answer: three bytes. The first scalar of a text, by the document's own answer: four bytes. The first scalar of a text, by the document's own answer: it is the decoder's, or none. Plain facts on the places of a text's scalars as two lists (bytes, and units, ahead of each, and at the end): what is found in them is what the calls answer. It imports nothing of the program. Contract of the document's own answer for the places of a text's scalars (boltholeref01.places): two new lists, or, if the text is not right, none; memory that was there is as it was. The contract of the document's own Right for layer 1 (boltholeref01): it answers what package utf's answers; memory that was there is as it was. Condition: texts of at most 1,000,000 bytes. -/
section
namespace Go.Proofs.YtnjhmjkonmmomaaDoor.U
open Go.Lib

/-- The first scalar of a text; (0, 0): it begins with none. -/
def scal (s : ByteArray) : Nat × Nat := if (Utf8.decode s 0).1 = 65533 ∧ (Utf8.decode s 0).2 = 1 then (0, 0) else Utf8.decode s 0
/-- The bytes behind the first one, gone through. -/
def contF (s : ByteArray) (n : Nat) : Nat → Nat → Nat → Option Nat
  | 0, _, c => some c
  | f + 1, i, c => if i < n then (if (s.get! i).toNat < 128 ∨ 192 ≤ (s.get! i).toNat then none else contF s n f (i + 1) (64 * c + (s.get! i).toNat - 128)) else some c
def refFin (least n : Nat) : Option Nat → Nat × Nat
  | none => (0, 0)
  | some c => if c < least ∨ 1114111 < c ∨ (55296 ≤ c ∧ c ≤ 57343) then (0, 0) else (c, n)
def refC (s : ByteArray) (n least c : Nat) : Nat × Nat := if s.size < n then (0, 0) else refFin least n (contF s n (n - 1) 1 c)

theorem refFin_bad (least n c : Nat) (h : c < least ∨ 1114111 < c ∨ (55296 ≤ c ∧ c ≤ 57343)) : refFin least n (some c) = (0, 0) := by
  simp only [refFin]; rw [if_pos h]
theorem refFin_ok (least n c : Nat) (h1 : ¬ c < least) (h2 : ¬ 1114111 < c) (h3 : ¬ (55296 ≤ c ∧ c ≤ 57343)) : refFin least n (some c) = (c, n) := by
  simp only [refFin]; rw [if_neg (fun h => h.elim h1 fun h => h.elim h2 h3)]
theorem contF_bad (s : ByteArray) (n f i c : Nat) (hi : i < n) (h : (s.get! i).toNat < 128 ∨ 192 ≤ (s.get! i).toNat) : contF s n (f + 1) i c = none := by
  simp only [contF]; rw [if_pos hi, if_pos h]
theorem contF_on (s : ByteArray) (n f i c : Nat) (hi : i < n) (h : ¬ ((s.get! i).toNat < 128 ∨ 192 ≤ (s.get! i).toNat)) : contF s n (f + 1) i c = contF s n f (i + 1) (64 * c + (s.get! i).toNat - 128) := by
  simp only [contF]; rw [if_pos hi, if_neg h]
theorem contF_done (s : ByteArray) (n f i c : Nat) (hi : ¬ i < n) : contF s n f i c = some c := by
  cases f <;> simp only [contF]; rw [if_neg hi]

def scalN (n b0 b1 b2 b3 : Nat) : Nat × Nat := if (decodeN n b0 b1 b2 b3).1 = 65533 ∧ (decodeN n b0 b1 b2 b3).2 = 1 then (0, 0) else decodeN n b0 b1 b2 b3
theorem scal_eq (s : ByteArray) : scal s = scalN s.size (s.get! 0).toNat (s.get! 1).toNat (s.get! 2).toNat (s.get! 3).toNat := by
  unfold scal scalN
  rw [decode_at]
  rfl
theorem scalN_bad {n b0 b1 b2 b3 : Nat} (h : decodeN n b0 b1 b2 b3 = (65533, 1)) : scalN n b0 b1 b2 b3 = (0, 0) := by
  unfold scalN; rw [h]; simp
theorem scalN_good {n b0 b1 b2 b3 c k : Nat} (h : decodeN n b0 b1 b2 b3 = (c, k)) (hk : 1 < k ∨ c < 65533) : scalN n b0 b1 b2 b3 = (c, k) := by
  unfold scalN; rw [h]; rw [if_neg (by simp only; omega)]
theorem ref1 (s : ByteArray) (h : (s.get! 0).toNat < 128) : scal s = ((s.get! 0).toNat, 1) := by
  rw [scal_eq]
  generalize (s.get! 0).toNat = b0 at *
  exact scalN_good (by unfold decodeN; rw [if_pos h]) (by omega)
theorem ref0 (s : ByteArray) (h : ¬ (s.get! 0).toNat < 128) (h2 : ¬ (192 ≤ (s.get! 0).toNat ∧ (s.get! 0).toNat < 224)) (h3 : ¬ (224 ≤ (s.get! 0).toNat ∧ (s.get! 0).toNat < 240)) (h4 : ¬ (240 ≤ (s.get! 0).toNat ∧ (s.get! 0).toNat < 248)) : scal s = (0, 0) := by
  rw [scal_eq]
  have hb : (s.get! 0).toNat < 256 := UInt8.toNat_lt _
  generalize (s.get! 0).toNat = b0 at *
  exact scalN_bad (by unfold decodeN; rw [if_neg h, if_neg (by omega), if_neg (by omega), if_neg (by omega)])
set_option maxHeartbeats 4000000 in
theorem ref2 (s : ByteArray) (h : 192 ≤ (s.get! 0).toNat) (h2 : (s.get! 0).toNat < 224) : scal s = refC s 2 128 ((s.get! 0).toNat - 192) := by
  rw [scal_eq]
  have c1 : (s.get! 1).toNat < 256 := UInt8.toNat_lt _
  have c2 : (s.get! 2).toNat < 256 := UInt8.toNat_lt _
  have c3 : (s.get! 3).toNat < 256 := UInt8.toNat_lt _
  unfold refC
  simp only [contF]
  generalize (s.get! 0).toNat = b0 at *
  generalize (s.get! 1).toNat = b1 at *
  generalize (s.get! 2).toNat = b2 at *
  generalize (s.get! 3).toNat = b3 at *
  generalize s.size = z at *
  by_cases hs : z < 2
  · rw [if_pos hs]
    exact scalN_bad (by unfold decodeN; repeat rw [if_neg (by omega)])
  · rw [if_neg hs, if_pos (by omega)]
    by_cases q1 : b1 < 128 ∨ 192 ≤ b1
    · rw [if_pos q1]
      exact scalN_bad (by unfold decodeN; repeat rw [if_neg (by omega)])
    rw [if_neg q1]
    simp only [refFin]
    by_cases q : 64 * (b0 - 192) + b1 - 128 < 128 ∨ 1114111 < 64 * (b0 - 192) + b1 - 128 ∨ (55296 ≤ 64 * (b0 - 192) + b1 - 128 ∧ 64 * (b0 - 192) + b1 - 128 ≤ 57343)
    · rw [if_pos q]
      exact scalN_bad (by unfold decodeN; rw [if_neg (by omega), if_pos (by omega)]; rw [if_neg (by omega)])
    · rw [if_neg q]
      exact scalN_good (by unfold decodeN; rw [if_neg (by omega), if_pos (by omega)]; rw [if_pos (by omega)]; exact Prod.ext (by simp only; omega) rfl) (by omega)
set_option maxHeartbeats 4000000 in
theorem ref3 (s : ByteArray) (h : 224 ≤ (s.get! 0).toNat) (h2 : (s.get! 0).toNat < 240) : scal s = refC s 3 2048 ((s.get! 0).toNat - 224) := by
  rw [scal_eq]
  have c1 : (s.get! 1).toNat < 256 := UInt8.toNat_lt _
  have c2 : (s.get! 2).toNat < 256 := UInt8.toNat_lt _
  have c3 : (s.get! 3).toNat < 256 := UInt8.toNat_lt _
  unfold refC
  simp only [contF]
  generalize (s.get! 0).toNat = b0 at *
  generalize (s.get! 1).toNat = b1 at *
  generalize (s.get! 2).toNat = b2 at *
  generalize (s.get! 3).toNat = b3 at *
  generalize s.size = z at *
  by_cases hs : z < 3
  · rw [if_pos hs]
    exact scalN_bad (by unfold decodeN; repeat rw [if_neg (by omega)])
  · rw [if_neg hs, if_pos (by omega)]
    by_cases q1 : b1 < 128 ∨ 192 ≤ b1
    · rw [if_pos q1]
      exact scalN_bad (by unfold decodeN; repeat rw [if_neg (by omega)])
    rw [if_neg q1]
    rw [if_pos (by omega)]
    by_cases q2 : b2 < 128 ∨ 192 ≤ b2
    · rw [if_pos q2]
      exact scalN_bad (by unfold decodeN; repeat rw [if_neg (by omega)])
    rw [if_neg q2]
    simp only [refFin]
    by_cases q : 64 * (64 * (b0 - 224) + b1 - 128) + b2 - 128 < 2048 ∨ 1114111 < 64 * (64 * (b0 - 224) + b1 - 128) + b2 - 128 ∨ (55296 ≤ 64 * (64 * (b0 - 224) + b1 - 128) + b2 - 128 ∧ 64 * (64 * (b0 - 224) + b1 - 128) + b2 - 128 ≤ 57343)
    · rw [if_pos q]
      exact scalN_bad (by unfold decodeN; rw [if_neg (by omega), if_neg (by omega), if_pos (by omega)]; rw [if_neg (by omega)])
    · rw [if_neg q]
      exact scalN_good (by unfold decodeN; rw [if_neg (by omega), if_neg (by omega), if_pos (by omega)]; rw [if_pos (by omega)]; exact Prod.ext (by simp only; omega) rfl) (by omega)
set_option maxHeartbeats 4000000 in
theorem ref4 (s : ByteArray) (h : 240 ≤ (s.get! 0).toNat) (h2 : (s.get! 0).toNat < 248) : scal s = refC s 4 65536 ((s.get! 0).toNat - 240) := by
  rw [scal_eq]
  have c1 : (s.get! 1).toNat < 256 := UInt8.toNat_lt _
  have c2 : (s.get! 2).toNat < 256 := UInt8.toNat_lt _
  have c3 : (s.get! 3).toNat < 256 := UInt8.toNat_lt _
  unfold refC
  simp only [contF]
  generalize (s.get! 0).toNat = b0 at *
  generalize (s.get! 1).toNat = b1 at *
  generalize (s.get! 2).toNat = b2 at *
  generalize (s.get! 3).toNat = b3 at *
  generalize s.size = z at *
  by_cases hs : z < 4
  · rw [if_pos hs]
    exact scalN_bad (by unfold decodeN; repeat rw [if_neg (by omega)])
  · rw [if_neg hs, if_pos (by omega)]
    by_cases q1 : b1 < 128 ∨ 192 ≤ b1
    · rw [if_pos q1]
      exact scalN_bad (by unfold decodeN; repeat rw [if_neg (by omega)])
    rw [if_neg q1]
    rw [if_pos (by omega)]
    by_cases q2 : b2 < 128 ∨ 192 ≤ b2
    · rw [if_pos q2]
      exact scalN_bad (by unfold decodeN; repeat rw [if_neg (by omega)])
    rw [if_neg q2]
    rw [if_pos (by omega)]
    by_cases q3 : b3 < 128 ∨ 192 ≤ b3
    · rw [if_pos q3]
      exact scalN_bad (by unfold decodeN; repeat rw [if_neg (by omega)])
    rw [if_neg q3]
    simp only [refFin]
    by_cases q : 64 * (64 * (64 * (b0 - 240) + b1 - 128) + b2 - 128) + b3 - 128 < 65536 ∨ 1114111 < 64 * (64 * (64 * (b0 - 240) + b1 - 128) + b2 - 128) + b3 - 128 ∨ (55296 ≤ 64 * (64 * (64 * (b0 - 240) + b1 - 128) + b2 - 128) + b3 - 128 ∧ 64 * (64 * (64 * (b0 - 240) + b1 - 128) + b2 - 128) + b3 - 128 ≤ 57343)
    · rw [if_pos q]
      exact scalN_bad (by unfold decodeN; rw [if_neg (by omega), if_neg (by omega), if_neg (by omega), if_pos (by omega)]; rw [if_neg (by omega)])
    · rw [if_neg q]
      exact scalN_good (by unfold decodeN; rw [if_neg (by omega), if_neg (by omega), if_neg (by omega), if_pos (by omega)]; rw [if_pos (by omega)]; exact Prod.ext (by simp only; omega) rfl) (by omega)
end Go.Proofs.YtnjhmjkonmmomaaDoor.U

namespace Go.Proofs.YtnjhmjkonmmomaaDoor.U
open Go.RowKit
open Go.Lib hiding intOf

def TwoN (p : Nat × Nat) (w : World) (e : Ending) (w' : World) : Prop := e = .returned (.tuple #[.int .i64 p.1, .int .i64 p.2]) ∧ w = w'
theorem twoN {p : Nat × Nat} {a b : Int} {w : World} (h1 : a = (p.1 : Int)) (h2 : b = (p.2 : Int)) : TwoN p w (.returned (.tuple #[.int .i64 a, .int .i64 b])) w := ⟨by rw [h1, h2], rfl⟩
theorem get_at (s : ByteArray) (i : Nat) (h : i < s.size) : s[i]'h = s.get! i := (Utf8W.get!_of_lt s i h).symm

end Go.Proofs.YtnjhmjkonmmomaaDoor.U

namespace Go.Proofs.YtnjhmjkonmmomaaDoor.U
open Go.RowKit
open Go.Lib hiding intOf

end Go.Proofs.YtnjhmjkonmmomaaDoor.U

namespace Go.Proofs.YtnjhmjkonmmomaaDoor.U
open Go.RowKit
open Go.Lib hiding intOf

end Go.Proofs.YtnjhmjkonmmomaaDoor.U

namespace Go.Proofs.YtnjhmjkonmmomaaDoor.U
open Go.RowKit
open Go.Lib hiding intOf

end Go.Proofs.YtnjhmjkonmmomaaDoor.U

namespace Go.Proofs.YtnjhmjkonmmomaaDoor.U
open Go.RowKit
open Go.Lib hiding intOf

end Go.Proofs.YtnjhmjkonmmomaaDoor.U

namespace Go.Proofs.YtnjhmjkonmmomaaDoor.U
open Go.Lib

def posL : List (Nat × Nat) → Nat → List Nat
  | [], p => [p]
  | x :: t, p => p :: posL t (p + x.2)
def unL : List (Nat × Nat) → Nat → List Nat
  | [], a => [a]
  | x :: t, a => a :: unL t (a + uw x.1)
theorem posL_length : ∀ (l : List (Nat × Nat)) (p : Nat), (posL l p).length = l.length + 1
  | [], _ => rfl
  | x :: t, p => by simp only [posL, List.length_cons, posL_length t]
theorem unL_length : ∀ (l : List (Nat × Nat)) (a : Nat), (unL l a).length = l.length + 1
  | [], _ => rfl
  | x :: t, a => by simp only [unL, List.length_cons, unL_length t]
theorem posL_snoc : ∀ (l : List (Nat × Nat)) (p : Nat) (y : Nat × Nat), posL (l ++ [y]) p = posL l p ++ [p + sumW l + y.2]
  | [], p, y => by simp [posL, sumW]
  | x :: t, p, y => by
    simp only [List.cons_append, posL, sumW, posL_snoc t]
    rw [Nat.add_assoc p x.2 (sumW t)]
theorem unL_snoc : ∀ (l : List (Nat × Nat)) (a : Nat) (y : Nat × Nat), unL (l ++ [y]) a = unL l a ++ [a + sumU l + uw y.1]
  | [], a, y => by simp [unL, sumU]
  | x :: t, a, y => by
    simp only [List.cons_append, unL, sumU, unL_snoc t]
    rw [Nat.add_assoc a (uw x.1) (sumU t)]
theorem unL_last : ∀ (l : List (Nat × Nat)) (a : Nat), (unL l a).getD l.length 0 = a + sumU l
  | [], a => by simp [unL, sumU]
  | x :: t, a => by
    simp only [unL, sumU, List.length_cons, List.getD_cons_succ, unL_last t]
    omega
theorem length_le : ∀ l : List (Nat × Nat), Wide l → l.length ≤ sumW l
  | [], _ => Nat.le_refl _
  | x :: t, h => by
    have h1 := h x (by simp)
    have h2 := length_le t (fun y hy => h y (by simp [hy]))
    simp only [List.length_cons, sumW]; omega

/-- Where a number stands in a list; -1: nowhere. -/
def fnd : List Nat → Int → Nat → Int
  | [], _, _ => -1
  | a :: t, x, i => if (a : Int) = x then i else fnd t x (i + 1)
theorem fnd_range : ∀ (l : List Nat) (x : Int) (i : Nat), fnd l x i = -1 ∨ ((i : Int) ≤ fnd l x i ∧ fnd l x i < ((i + l.length : Nat) : Int))
  | [], _, _ => .inl rfl
  | a :: t, x, i => by
    simp only [fnd]
    split
    · exact .inr ⟨Int.le_refl _, by simp only [List.length_cons]; omega⟩
    · rcases fnd_range t x (i + 1) with h | h
      · exact .inl h
      · exact .inr ⟨by omega, by simp only [List.length_cons]; omega⟩
theorem off_fnd : ∀ (l : List (Nat × Nat)) (pos ahead i : Nat) (unit : Int),
    (fnd (unL l ahead) unit i = -1 ∧ off l pos ahead unit = (0, 12)) ∨ (∃ k : Nat, fnd (unL l ahead) unit i = ((i + k : Nat) : Int) ∧ off l pos ahead unit = ((((posL l pos).getD k 0 : Nat) : Int), 0))
  | [], pos, ahead, i, unit => by
    simp only [unL, fnd, off, posL]
    by_cases h : (ahead : Int) = unit
    · rw [if_pos h, if_pos h]; exact .inr ⟨0, rfl, rfl⟩
    · rw [if_neg h, if_neg h]; exact .inl ⟨rfl, rfl⟩
  | x :: t, pos, ahead, i, unit => by
    simp only [unL, fnd, off, posL]
    by_cases h : (ahead : Int) = unit
    · rw [if_pos h, if_pos h]; exact .inr ⟨0, rfl, rfl⟩
    · rw [if_neg h, if_neg h]
      rcases off_fnd t (pos + x.2) (ahead + uw x.1) (i + 1) unit with h1 | ⟨k, h1, h2⟩
      · exact .inl h1
      · exact .inr ⟨k + 1, by rw [h1]; omega, by rw [h2, List.getD_cons_succ]⟩
theorem uni_fnd : ∀ (l : List (Nat × Nat)) (pos ahead i : Nat) (a : Int),
    (fnd (posL l pos) a i = -1 ∧ uni l pos ahead a = (0, 12)) ∨ (∃ k : Nat, fnd (posL l pos) a i = ((i + k : Nat) : Int) ∧ uni l pos ahead a = ((((unL l ahead).getD k 0 : Nat) : Int), 0))
  | [], pos, ahead, i, a => by
    simp only [unL, fnd, uni, posL]
    by_cases h : (pos : Int) = a
    · rw [if_pos h, if_pos h]; exact .inr ⟨0, rfl, rfl⟩
    · rw [if_neg h, if_neg h]; exact .inl ⟨rfl, rfl⟩
  | x :: t, pos, ahead, i, a => by
    simp only [unL, fnd, uni, posL]
    by_cases h : (pos : Int) = a
    · rw [if_pos h, if_pos h]; exact .inr ⟨0, rfl, rfl⟩
    · rw [if_neg h, if_neg h]
      rcases uni_fnd t (pos + x.2) (ahead + uw x.1) (i + 1) a with h1 | ⟨k, h1, h2⟩
      · exact .inl h1
      · exact .inr ⟨k + 1, by rw [h1]; omega, by rw [h2, List.getD_cons_succ]⟩
/-- The last of the places that are not beyond. -/
def foldE : List Nat → Int → Nat → Nat
  | [], _, e => e
  | b :: t, most, e => foldE t most (if (b : Int) ≤ most then b else e)
theorem foldE_low : ∀ (l : List (Nat × Nat)) (pos e : Nat) (most : Int), Wide l → most < (pos : Int) → foldE (posL l pos) most e = e
  | [], pos, e, most, _, h => by simp only [posL, foldE]; rw [if_neg (by omega)]
  | x :: t, pos, e, most, hw, h => by
    simp only [posL, foldE]; rw [if_neg (by omega)]
    exact foldE_low t _ e most (fun y hy => hw y (by simp [hy])) (by omega)
theorem foldE_cut : ∀ (l : List (Nat × Nat)) (pos e : Nat) (most : Int), Wide l → foldE (posL l pos) most e = if ((pos + sumW l : Nat) : Int) ≤ most then pos + sumW l else cutE l pos most e
  | [], pos, e, most, _ => by
    simp only [posL, foldE, sumW, cutE, Nat.add_zero]
    rfl
  | x :: t, pos, e, most, hw => by
    have hx := hw x (by simp)
    have hwt : Wide t := fun y hy => hw y (by simp [hy])
    by_cases h : most < (pos : Int)
    · rw [foldE_low (x :: t) pos e most hw h, if_neg (by omega)]
      simp only [cutE]; rw [if_pos h]
    · simp only [posL, foldE, sumW, cutE]
      rw [if_pos (by omega), if_neg h, foldE_cut t _ pos most hwt]
      have e1 : pos + x.2 + sumW t = pos + (x.2 + sumW t) := by omega
      rw [e1]
      rfl
theorem cutB_fold (s : ByteArray) (most : Int) (hok : okB s = true) : cutB s most = s.extract 0 (foldE (posL (items s) 0) most 0) := by
  unfold cutB
  rw [if_pos hok, foldE_cut (items s) 0 0 most (itemsF_wide s _ _), sumW_items, Nat.zero_add]
  by_cases h : (s.size : Int) ≤ most
  · rw [if_pos h, if_pos h]; simp
  · rw [if_neg h, if_neg h]

/-- The lists within bounds. -/
theorem posL_le : ∀ (l : List (Nat × Nat)) (p : Nat), ∀ x ∈ posL l p, x ≤ p + sumW l
  | [], p, x, h => by simp only [posL, List.mem_singleton] at h; subst h; simp [sumW]
  | y :: t, p, x, h => by
    simp only [posL, List.mem_cons] at h
    simp only [sumW]
    rcases h with rfl | h
    · omega
    · have := posL_le t _ x h; omega
theorem unL_le : ∀ (l : List (Nat × Nat)) (p : Nat), ∀ x ∈ unL l p, x ≤ p + sumU l
  | [], p, x, h => by simp only [unL, List.mem_singleton] at h; subst h; simp [sumU]
  | y :: t, p, x, h => by
    simp only [unL, List.mem_cons] at h
    simp only [sumU]
    rcases h with rfl | h
    · omega
    · have := unL_le t _ x h; omega
theorem getD_le (l : List Nat) (k B : Nat) (h : ∀ x ∈ l, x ≤ B) : l.getD k 0 ≤ B := by
  rw [List.getD_eq_getElem?_getD]
  by_cases hk : k < l.length
  · rw [List.getElem?_eq_getElem hk, Option.getD_some]; exact h _ (List.getElem_mem hk)
  · rw [List.getElem?_eq_none (by omega), Option.getD_none]; omega

/-- The first scalar of what is left of a text. -/
theorem scal_at (s : ByteArray) (pos : Nat) : scal (s.extract pos s.size) = if (Utf8.decode s pos).1 = 65533 ∧ (Utf8.decode s pos).2 = 1 then (0, 0) else Utf8.decode s pos := by
  have h := tail_decode s pos 0
  rw [Nat.add_zero] at h
  unfold scal
  rw [h]
theorem okL_bad (s : ByteArray) (f pos : Nat) (h : pos < s.size) (hb : (Utf8.decode s pos).1 = 65533 ∧ (Utf8.decode s pos).2 = 1) : okL (itemsF s (f + 1) pos) = false := by
  rw [itemsF_step s f pos h]; simp only [okL]; rw [if_pos hb]
theorem okL_on (s : ByteArray) (f pos : Nat) (h : pos < s.size) (hb : ¬ ((Utf8.decode s pos).1 = 65533 ∧ (Utf8.decode s pos).2 = 1)) : okL (itemsF s (f + 1) pos) = okL (itemsF s f (pos + (Utf8.decode s pos).2)) := by
  rw [itemsF_step s f pos h]; simp only [okL]; rw [if_neg hb]
theorem okL_done (s : ByteArray) (f pos : Nat) (h : ¬ pos < s.size) : okL (itemsF s f pos) = true := by rw [itemsF_end s f pos h]; rfl
/-- What has been gone through, and what is left. -/
def Split (s : ByteArray) (l : List (Nat × Nat)) (f pos : Nat) : Prop := items s = l ++ itemsF s f pos ∧ sumW l = pos ∧ s.size - pos ≤ f ∧ pos ≤ s.size
theorem split_zero (s : ByteArray) : Split s [] s.size 0 := ⟨rfl, rfl, by omega, by omega⟩
theorem split_step {s : ByteArray} {l : List (Nat × Nat)} {f pos : Nat} (h : Split s l (f + 1) pos) (hp : pos < s.size) : Split s (l ++ [Utf8.decode s pos]) f (pos + (Utf8.decode s pos).2) := by
  obtain ⟨h1, h2, h3, h4⟩ := h
  have hw := width_pos s pos hp
  refine ⟨?_, ?_, by omega, width_le s pos hp⟩
  · rw [h1, itemsF_step s f pos hp]; simp
  · rw [sumW_append, h2]; rfl
theorem split_done {s : ByteArray} {l : List (Nat × Nat)} {f pos : Nat} (h : Split s l f pos) (hp : ¬ pos < s.size) : l = items s := by
  obtain ⟨h1, h2, h3, h4⟩ := h
  rw [h1, itemsF_end s f pos hp, List.append_nil]
end Go.Proofs.YtnjhmjkonmmomaaDoor.U

namespace Go.Proofs.YtnjhmjkonmmomaaDoor.U
open Go.RowKit
open Go.Lib hiding intOf

def I (n : Nat) : Value := .int .i64 n
def Row (w : World) (g : Nat) (l : List Nat) : Prop := ∀ i, i < l.length → w.cell? ⟨g, i, none⟩ = some (.int .i64 (l.getD i 0 : Nat))
def PlacesPost (s : ByteArray) (w : World) (e : Ending) (w' : World) : Prop :=
  if okB s = true then ∃ g1 c1 g2 c2, e = .returned (.tuple #[.slice (some ⟨g1, 0, none⟩) ((items s).length + 1) c1, .slice (some ⟨g2, 0, none⟩) ((items s).length + 1) c2, .bool true]) ∧
    Row w' g1 (posL (items s) 0) ∧ Row w' g2 (unL (items s) 0) ∧ Below w.heap.size w w' ∧ g1 < w'.heap.size ∧ g2 < w'.heap.size
  else e = .returned (.tuple #[.slice none 0 0, .slice none 0 0, .bool false]) ∧ Below w.heap.size w w'

theorem row_of_owns {w : World} {B g c n : Nat} {l : List Nat} (h : w.ownsRow B 3 1 (.slice (some ⟨g, 0, none⟩) n c) n (l.map I)) : Row w g l ∧ g < w.heap.size := by
  have hl : l.length = n := by have := h.1; simpa using this
  refine ⟨fun i hi => ?_, (h.lt g rfl).2⟩
  rw [h.cellAt i (by omega), List.getElem?_map, List.getElem?_eq_getElem hi]
  simp [I, hi]
theorem shape {w : World} {B n : Nat} {v : Value} {xs : List Value} (h : w.ownsRow B 3 1 v (n + 1) xs) : ∃ g c, v = .slice (some ⟨g, 0, none⟩) (n + 1) c := by
  rcases h.2 with ⟨_, h0⟩ | ⟨g, cap, cur, hv, _⟩
  · omega
  · exact ⟨g, cap, hv⟩
theorem places_fin {s : ByteArray} {w w' : World} {l : List (Nat × Nat)} {g1 c1 g2 c2 B : Nat} (hok : okB s = true) (hl : l = items s)
    (h1 : w'.ownsRow B 3 1 (.slice (some ⟨g1, 0, none⟩) (l.length + 1) c1) (l.length + 1) ((posL l 0).map I)) (h2 : w'.ownsRow B 3 1 (.slice (some ⟨g2, 0, none⟩) (l.length + 1) c2) (l.length + 1) ((unL l 0).map I))
    (hb : Below w.heap.size w w') : PlacesPost s w (.returned (.tuple #[.slice (some ⟨g1, 0, none⟩) (l.length + 1) c1, .slice (some ⟨g2, 0, none⟩) (l.length + 1) c2, .bool true])) w' := by
  subst hl
  unfold PlacesPost
  rw [if_pos hok]
  obtain ⟨r1, s1⟩ := row_of_owns h1
  obtain ⟨r2, s2⟩ := row_of_owns h2
  exact ⟨g1, c1, g2, c2, rfl, r1, r2, hb, s1, s2⟩
theorem places_bad {s : ByteArray} {w w' : World} (hok : okB s = false) (hb : Below w.heap.size w w') : PlacesPost s w (.returned (.tuple #[.slice none 0 0, .slice none 0 0, .bool false])) w' := by
  unfold PlacesPost
  rw [if_neg (by rw [hok]; simp)]
  exact ⟨rfl, hb⟩
def Two (w0 : World) (B : Nat) (s : ByteArray) (bv uv av : Value) (wr : World) : Prop :=
  ∃ (l : List (Nat × Nat)) (f pos g1 c1 g2 c2 : Nat), av = .int .i64 pos ∧ bv = .slice (some ⟨g1, 0, none⟩) (l.length + 1) c1 ∧ uv = .slice (some ⟨g2, 0, none⟩) (l.length + 1) c2 ∧
    Split s l f pos ∧ okL (itemsF s f pos) = okB s ∧
    wr.ownsRow B 3 1 (.slice (some ⟨g1, 0, none⟩) (l.length + 1) c1) (l.length + 1) ((posL l 0).map I) ∧ wr.ownsRow B 3 1 (.slice (some ⟨g2, 0, none⟩) (l.length + 1) c2) (l.length + 1) ((unL l 0).map I) ∧
    g1 ≠ g2 ∧ Below B w0 wr
theorem start (w : World) (s : ByteArray) (e : TypeId) (he : e = 3) : Two w w.heap.size s (.slice (some ⟨w.heap.size, 0, none⟩) 1 1) (.slice (some ⟨w.heap.size + 1, 0, none⟩) 1 1) (.int .i64 0)
    ((w.alloc (.cells #[.int .i64 0] e)).alloc (.cells #[.int .i64 0] e)) := by
  subst he
  have h1 := World.ownsRow_lit (base := w.heap.size) (e := 3) (size := 1) w #[.int .i64 0] 1 (Nat.le_refl _) (by decide) rfl
  have h2 := World.ownsRow_lit (base := w.heap.size) (e := 3) (size := 1) (w.alloc (.cells #[.int .i64 0] 3)) #[.int .i64 0] 1 (by rw [World.size_alloc]; omega) (by decide) rfl
  rw [World.size_alloc] at h2
  exact ⟨[], s.size, 0, w.heap.size, 1, w.heap.size + 1, 1, rfl, rfl, rfl, split_zero s, rfl, h1.alloc _, h2, by omega, ((Below.refl _ _).alloc (Nat.le_refl _) _).alloc (by rw [World.size_alloc]; omega) _⟩
theorem info3 : (Tryd.prog.info? 3).map (fun i => (i.zero, i.size, i.bytes)) = some (some (.int .i64 0), 1, 8) := by kernel_rfl

/-- A scalar more: what the two appends leave is what the relation says of one scalar more. -/
theorem two_step {w0 wr w1 w2 : World} {s : ByteArray} {l : List (Nat × Nat)} {f pos m g1 c1 g2 c2 u : Nat} {v1 v2 : Value} {o1 o2 : Obj} {x y : Int}
    (hS : Split s l f pos) (hA : okL (itemsF s f pos) = okB s) (hm : l.length = m) (hp : pos < s.size) (hgood : ¬ ((Utf8.decode s pos).1 = 65533 ∧ (Utf8.decode s pos).2 = 1)) (hu : uw (Utf8.decode s pos).1 = u)
    (hx : x = ((pos + (Utf8.decode s pos).2 : Nat) : Int)) (hy : y = ((sumU l + u : Nat) : Int))
    (h1 : wr.ownsRow w0.heap.size 3 1 (.slice (some ⟨g1, 0, none⟩) (m + 1) c1) (m + 1) ((posL l 0).map I)) (h2 : wr.ownsRow w0.heap.size 3 1 (.slice (some ⟨g2, 0, none⟩) (m + 1) c2) (m + 1) ((unL l 0).map I))
    (hne : g1 ≠ g2) (hb : Below w0.heap.size w0 wr)
    (hv1 : w1.ownsRow w0.heap.size 3 1 v1 (m + 1 + 1) ((posL l 0).map I ++ [.int .i64 x])) (hg1 : (wr.alloc o1).grownBy w1 (some g1)) (hat1 : v1.ownBlock = some g1 ∨ v1.ownBlock = some (wr.alloc o1).heap.size)
    (hv2 : w2.ownsRow w0.heap.size 3 1 v2 (m + 1 + 1) ((unL l 0).map I ++ [.int .i64 y])) (hg2 : (w1.alloc o2).grownBy w2 (some g2)) (hat2 : v2.ownBlock = some g2 ∨ v2.ownBlock = some (w1.alloc o2).heap.size) :
    Two w0 w0.heap.size s v1 v2 (.int .i64 x) w2 := by
  obtain ⟨k, rfl⟩ : ∃ k, f = k + 1 := ⟨f - 1, by have := hS.2.2.1; omega⟩
  have hlt1 := h1.lt g1 rfl
  have hlt2 := h2.lt g2 rfl
  have hsz1 := hg1.size
  have hsz2 := hg2.size
  rw [World.size_alloc] at hsz1 hsz2 hat1 hat2
  have hsum : sumW l = pos := hS.2.1
  have e1 : (posL l 0).map I ++ [.int .i64 x] = (posL (l ++ [Utf8.decode s pos]) 0).map I := by
    rw [posL_snoc, hsum, hx]; simp [I]
  have e2 : (unL l 0).map I ++ [.int .i64 y] = (unL (l ++ [Utf8.decode s pos]) 0).map I := by
    rw [unL_snoc, hu, hy]; simp [I]
  rw [e1] at hv1
  rw [e2] at hv2
  have hlen : (l ++ [Utf8.decode s pos]).length = m + 1 := by simp [hm]
  obtain ⟨g1', c1', rfl⟩ := shape hv1
  obtain ⟨g2', c2', rfl⟩ := shape hv2
  have hl1 := hv1.lt g1' rfl
  have hl2 := hv2.lt g2' rfl
  simp only [Value.ownBlock, Option.some.injEq] at hat1 hat2
  have hk1 := (hv1.alloc o2).kept hg2 (.inr (by simp only [Value.ownBlock, ne_eq, Option.some.injEq]; omega))
  refine ⟨l ++ [Utf8.decode s pos], k, pos + (Utf8.decode s pos).2, g1', c1', g2', c2', by rw [hx], by rw [hlen], by rw [hlen], split_step hS hp, ?_, ?_, ?_, by omega, ?_⟩
  · rw [← hA, okL_on s k pos hp hgood]
  · rw [hlen]; exact hk1
  · rw [hlen]; exact hv2
  · exact (((hb.alloc hb.size o1).grown hg1 (by rw [World.size_alloc]; have := hb.size; omega) (fun j hj => by cases hj; omega)).alloc (by have := hb.size; omega) o2).grown hg2 (by rw [World.size_alloc]; have := hb.size; omega) (fun j hj => by cases hj; omega)
theorem keep_units {w w1 : World} {o : Obj} {B g1 c1 g2 c2 n k : Nat} {xs : List Value} (h : w.ownsRow B 3 1 (.slice (some ⟨g2, 0, none⟩) n c2) n xs) (hne : g1 ≠ g2) (hg : (w.alloc o).grownBy w1 (Value.slice (some ⟨g1, 0, none⟩) k c1).ownBlock) :
    w1.ownsRow B 3 1 (.slice (some ⟨g2, 0, none⟩) n c2) n xs := (h.alloc o).kept hg (.inr (by simp only [Value.ownBlock, ne_eq, Option.some.injEq]; omega))
theorem last_cell {w : World} {B g c m : Nat} {l : List (Nat × Nat)} (hm : l.length = m) (h : w.ownsRow B 3 1 (.slice (some ⟨g, 0, none⟩) (m + 1) c) (m + 1) ((unL l 0).map I)) : w.cell? ⟨g, m, none⟩ = some (.int .i64 (sumU l : Nat)) := by
  have hl := unL_last l 0
  rw [h.cellAt m (by omega), List.getElem?_map]
  rw [hm, Nat.zero_add, List.getD_eq_getElem?_getD] at hl
  have hlt : m < (unL l 0).length := by rw [unL_length]; omega
  rw [List.getElem?_eq_getElem hlt] at hl ⊢
  simp only [Option.getD_some] at hl
  rw [hl]; rfl

end Go.Proofs.YtnjhmjkonmmomaaDoor.U

namespace Go.Proofs.YtnjhmjkonmmomaaDoor.U
open Go.RowKit
open Go.Lib hiding intOf

end Go.Proofs.YtnjhmjkonmmomaaDoor.U
end
/- SRef3: Contracts of the document's own answers for layer 8: other, word. -/
section
namespace Go.Proofs.YtnjhmjkonmmomaaDoor.S
open Go.RowKit
open Go.Lib hiding intOf
open Go.Proofs.YtnjhmjkonmmomaaDoor.U Go.Proofs.YtnjhmjkonmmomaaDoor.L

/-! ### Where words end in a right text -/
theorem tl_get (s : ByteArray) {i : Nat} (h : i < s.size) : s.toList[i]? = some s[i] := by
  have := tl_drop s h
  rw [← List.head?_drop, this]; rfl
theorem get_tl (s : ByteArray) {i : Nat} {c : UInt8} (h : s.toList[i]? = some c) : i < s.size ∧ s.get! i = c := by
  have hi : i < s.size := by rw [← tl_len]; exact (List.getElem?_eq_some_iff.1 h).1
  refine ⟨hi, ?_⟩
  rw [tl_get s hi] at h
  rw [Utf8W.get!_of_lt s i hi]
  exact Option.some.inj h
theorem bnd_byte {s : ByteArray} {i : Nat} {c : UInt8} (hok : okB s = true) (h : s.toList[i]? = some c) (hc : c.toNat < 128) : Bnd s i ∧ Bnd s (i + 1) := by
  obtain ⟨h1, h2⟩ := get_tl s h
  exact bnd_low hok h1 (by rw [h2]; exact hc)
theorem tl_mk (s : ByteArray) : (⟨s.toList.toArray⟩ : ByteArray) = s := by
  rw [ByteArray.toList_eq]
theorem wid_is (s : ByteArray) : wid s.toList = (Utf8.decode s 0).2 := by unfold wid; rw [tl_mk]
theorem items_first (s : ByteArray) (h : 0 < s.size) : ∃ l, items s = Utf8.decode s 0 :: l := by
  unfold items
  obtain ⟨n, hn⟩ : ∃ n, s.size = n + 1 := ⟨s.size - 1, by omega⟩
  rw [hn, itemsF_step s n 0 h]
  exact ⟨_, rfl⟩
theorem bnd_wid {s : ByteArray} (h : 0 < s.size) : Bnd s (wid s.toList) := by
  obtain ⟨l, hl⟩ := items_first s h
  exact ⟨[Utf8.decode s 0], l, hl, by rw [wid_is]; simp [sumW]⟩
theorem bnd_min {s : ByteArray} (h : 0 < s.size) {a : Nat} (hb : Bnd s a) (ha : 0 < a) : wid s.toList ≤ a := by
  obtain ⟨l, hl⟩ := items_first s h
  obtain ⟨l1, l2, h1, h2⟩ := hb
  rw [hl] at h1
  cases l1 with
  | nil => simp [sumW] at h2; omega
  | cons x y =>
    simp only [List.cons_append, List.cons.injEq] at h1
    rw [← h2, wid_is, h1.1]
    simp [sumW]
theorem nmc_low {c : UInt8} (h : nmc c = true) : c.toNat < 128 := by
  unfold nmc lett figu at h
  simp [UInt8.le_iff_toNat_le] at h
  rcases h with ((h | h) | h) | h
  · omega
  · omega
  · subst h; decide
  · omega
theorem tw_last {p : UInt8 → Bool} {r : By} {i : Nat} (h : i < (r.takeWhile p).length) : ∃ c, r[i]? = some c ∧ p c = true := by
  obtain ⟨c, hc⟩ : ∃ c, (r.takeWhile p)[i]? = some c := ⟨_, List.getElem?_eq_getElem h⟩
  refine ⟨c, ?_, ?_⟩
  · rw [← tw_take p r, List.getElem?_take_of_lt h] at hc
    exact hc
  · have hm : c ∈ r.takeWhile p := List.mem_of_getElem? hc
    have := List.all_takeWhile (p := p) (l := r)
    exact (List.all_eq_true.1 this) c hm
theorem quoTail_last : ∀ (r : By) (n : Nat), quoTail r = some n → r[n - 1]? = some 34
  | [], n, h => by simp [quoTail] at h
  | c :: r, n, h => by
    simp only [quoTail] at h
    split at h
    · cases h
    · split at h
      · rename_i h34
        cases h; simp [h34]
      · cases hq : quoTail r with
        | none => rw [hq] at h; cases h
        | some m =>
          rw [hq] at h
          simp only [Option.map_some, Option.some.injEq] at h
          subst h
          have h1 := quoTail_last r m hq
          have h2 := (quoTail_le r m hq).1
          obtain ⟨k, rfl⟩ : ∃ k, m = k + 1 := ⟨m - 1, by omega⟩
          simpa using h1
/-- A word of a right text ends where a scalar begins. -/
theorem word_bnd {s : ByteArray} (hok : okB s = true) (h : 0 < s.size) : Bnd s (wordL true s.toList).2 := by
  have hl := tl_drop s h
  rw [List.drop_zero] at hl
  have key : ∀ k c, 1 ≤ k → s.toList[k - 1]? = some c → c.toNat < 128 → Bnd s k := fun k c hk h1 h2 => by
    have := (bnd_byte hok h1 h2).2
    rwa [show k - 1 + 1 = k by omega] at this
  unfold wordL
  generalize s.toList.drop (0 + 1) = r at hl
  generalize s[0] = z at hl
  split
  · rename_i h1
    simp only
    rw [hl] at h1 ⊢
    simp only [nameLen] at h1 ⊢
    split at h1
    · rename_i hz
      rw [if_pos hz]
      cases hm : (r.takeWhile nmc).length with
      | zero => exact key 1 z (Nat.le_refl _) (by rw [hl]; rfl) (nmc_low (by unfold nmc; simp [hz]))
      | succ m =>
        obtain ⟨c, h3, h4⟩ := tw_last (p := nmc) (r := r) (i := m) (by omega)
        exact key (1 + (m + 1)) c (by omega) (by rw [hl, show 1 + (m + 1) - 1 = m + 1 by omega]; simpa using h3) (nmc_low h4)
    · omega
  · split
    · rename_i h1
      simp only
      obtain ⟨m, hm⟩ : ∃ m, numLen s.toList = m + 1 := ⟨numLen s.toList - 1, by omega⟩
      obtain ⟨c, h3, h4⟩ := tw_last (p := figu) (r := s.toList) (i := m) (by unfold numLen at hm; omega)
      rw [hm]
      exact key (m + 1) c (by omega) (by rw [show m + 1 - 1 = m by omega]; exact h3) (nmc_low (by unfold nmc; simp [h4]))
    · split
      · rename_i h1
        simp only
        rw [hl] at h1 ⊢
        simp only [quoLen] at h1 ⊢
        split at h1
        · rename_i hz
          rw [if_pos hz]
          cases hq : quoTail r with
          | none => rw [hq] at h1; simp at h1
          | some n =>
            simp only
            have h3 := quoTail_last r n hq
            have h4 := (quoTail_le r n hq).1
            obtain ⟨k, rfl⟩ : ∃ k, n = k + 1 := ⟨n - 1, by omega⟩
            exact key (k + 1 + 1) 34 (by omega) (by rw [hl]; simpa using h3) (by decide)
        · omega
      · split
        · rename_i h1
          simp only
          rw [hl] at h1
          simp at h1
          exact key 1 z (Nat.le_refl _) (by rw [hl]; rfl) (by rw [h1]; decide)
        · simp only
          unfold markLen
          split
          · rename_i h2
            rw [hl] at h2
            match r, h2, hl with
            | b :: u, h2, hl =>
              refine key 2 b (by omega) (by rw [hl]; rfl) ?_
              simp [two] at h2
              rcases h2 with (((((⟨_, h⟩ | ⟨_, h⟩) | ⟨_, h⟩) | ⟨_, h⟩) | ⟨_, h⟩) | ⟨_, h⟩) | ⟨_, h⟩ <;> (rw [h]; decide)
          · rw [if_pos rfl]
            exact bnd_wid h
theorem suf_ok {s : ByteArray} {m : Nat} (hok : okB s = true) (h : Bnd s m) : okB (s.extract m s.size) = true := (cut_ok hok h).2.1

/-! ### other -/
def OtherP (s : ByteArray) (n : Nat) : Prop := (1 ≤ n ∧ n ≤ s.size ∧ okB (s.extract 0 n) = true ∧ ∀ j, 1 ≤ j → j < n → okB (s.extract 0 j) = false) ∨ (n = 1 ∧ ∀ j, 1 ≤ j → j ≤ 4 → j ≤ s.size → okB (s.extract 0 j) = false)
theorem ok_low (c : UInt8) (h : c.toNat < 128) (s : ByteArray) (hs : s.toList = [c]) : okB s = true := by
  have hz : s.size = 1 := by rw [← tl_len, hs]; rfl
  have hd : Utf8.decode s 0 = (c.toNat, 1) := by
    have hg : s.get! 0 = c := (get_tl s (i := 0) (c := c) (by rw [hs]; rfl)).2
    rw [decode_at, hg, decodeN_low _ _ _ _ _ h]
  unfold okB items
  rw [hz, itemsF_step s 0 0 (by omega), hd, itemsF_end s 0 _ (by simp [hz])]
  simp only [okL]
  rw [if_neg (by omega)]
theorem OtherP.low {s : ByteArray} {n : Nat} (h : OtherP s n) (h0 : 0 < s.size) (hc : s[0].toNat < 128) : n = 1 := by
  have h1 : okB (s.extract 0 1) = true := ok_low s[0] hc _ (by
    rw [ext_take]
    have := tl_drop s h0
    rw [List.drop_zero] at this
    rw [this]; rfl)
  rcases h with ⟨h2, _, _, h4⟩ | ⟨h2, _⟩
  · by_cases hn : n = 1
    · exact hn
    · rw [h4 1 (Nat.le_refl _) (by omega)] at h1; cases h1
  · exact h2
theorem OtherP.right {s : ByteArray} {n : Nat} (h : OtherP s n) (h0 : 0 < s.size) (hok : okB s = true) : n = wid s.toList := by
  have hw := bnd_wid h0
  have hwb := wid_bounds (l := s.toList) (by intro e; have := tl_len s; rw [e] at this; simp at this; omega)
  rw [tl_len] at hwb
  have hw4 : wid s.toList ≤ 4 := by rw [wid_is, decode_at]; exact decodeN_wide _ _ _ _ _
  have hwo := (bnd_iff hok hwb.2).1 hw
  rcases h with ⟨h1, h2, h3, h4⟩ | ⟨h1, h2⟩
  · have hb := (bnd_iff hok h2).2 h3
    have hle := bnd_min h0 hb (by omega)
    by_cases e : wid s.toList < n
    · rw [h4 _ hwb.1 e] at hwo; cases hwo
    · omega
  · rw [h2 _ hwb.1 hw4 hwb.2] at hwo; cases hwo
theorem two_or (s : ByteArray) (h : 2 ≤ s.size) : ∃ t : By, (s.extract 0 2).toList = t ∧ (two s.toList = ((t == [58, 61]) || (t == [61, 61]) || (t == [33, 61]) || (t == [60, 61]) || (t == [62, 61]) || (t == [38, 38]) || (t == [124, 124]))) := by
  refine ⟨_, rfl, ?_⟩
  rw [ext_take]
  have hl := tl_len s
  match hh : s.toList with
  | [] => rw [hh] at hl; simp at hl; omega
  | [a] => rw [hh] at hl; simp at hl; omega
  | a :: b :: r =>
    simp only [List.take_succ_cons, List.take_zero, two]
    have e : ∀ x y : UInt8, ([a, b] == [x, y]) = (a == x && b == y) := fun x y => by
      show (a == x && (b == y && true)) = _
      rw [Bool.and_true]
    simp only [e]
theorem two_short (s : ByteArray) (h : s.size < 2) : two s.toList = false := by
  have hl := tl_len s
  match hh : s.toList with
  | [] => rfl
  | [a] => rfl
  | a :: b :: r => rw [hh] at hl; simp at hl; omega
def OtherR (s : ByteArray) (n : Nat) : Prop := (two s.toList = true ∧ n = 2) ∨ (two s.toList = false ∧ OtherP s n)
end Go.Proofs.YtnjhmjkonmmomaaDoor.S
end
/- SRef4: The contract of the document's own word of layer 8. -/
section
namespace Go.Proofs.YtnjhmjkonmmomaaDoor.S
open Go.RowKit
open Go.Lib hiding intOf
open Go.Proofs.YtnjhmjkonmmomaaDoor.U Go.Proofs.YtnjhmjkonmmomaaDoor.L

theorem two_low {s : ByteArray} (h0 : 0 < s.size) (h : two s.toList = true) : s[0].toNat < 128 := by
  have hl := tl_drop s h0
  rw [List.drop_zero] at hl
  rw [hl] at h
  generalize s[0] = z at h ⊢
  match s.toList.drop (0 + 1), h with
  | b :: u, h =>
    simp [two] at h
    rcases h with (((((⟨h, _⟩ | ⟨h, _⟩) | ⟨h, _⟩) | ⟨h, _⟩) | ⟨h, _⟩) | ⟨h, _⟩) | ⟨h, _⟩ <;> (rw [h]; decide)
end Go.Proofs.YtnjhmjkonmmomaaDoor.S
end

/- Plain facts about where scalars begin in a right text: every beginning that ends there is right, every ending that begins there; bytes 10, and places of lines, are such. It imports nothing of the program. -/
import Derived.Test.YtapjomdplibanaaDoorLPlain
namespace Go.Proofs.YtapjomdplibanaaDoor.L
open Go.Lib Go.Proofs.YtapjomdplibanaaDoor.U

theorem okL_app (x y : List (Nat × Nat)) : okL (x ++ y) = true ↔ okL x = true ∧ okL y = true := by rw [okL_append, Bool.and_eq_true]
/-- A scalar that fits is read as it is read with more bytes behind. -/
theorem decodeN_fit (n k b0 b1 b2 b3 c1 c2 c3 : Nat) (hn : 1 ≤ n) (h1 : 1 < n → c1 = b1) (h2 : 2 < n → c2 = b2) (h3 : 3 < n → c3 = b3)
    (hw : (decodeN (n + k) b0 c1 c2 c3).2 ≤ n) (hok : ¬ ((decodeN (n + k) b0 c1 c2 c3).1 = 65533 ∧ (decodeN (n + k) b0 c1 c2 c3).2 = 1)) : decodeN n b0 b1 b2 b3 = decodeN (n + k) b0 c1 c2 c3 := by
  unfold decodeN at hw hok ⊢
  by_cases c0 : b0 < 128
  · simp [c0]
  · rw [if_neg c0] at hw hok ⊢
    rw [if_neg c0]
    by_cases q1 : b0 / 32 = 6 ∧ (1 < n + k ∧ c1 / 64 = 2)
    · by_cases hn1 : 1 < n
      · have e1 := h1 hn1
        subst e1
        rw [if_pos q1, if_pos ⟨q1.1, hn1, q1.2.2⟩]
      · rw [if_pos q1] at hw hok
        exfalso
        split at hw <;> split at hok <;> simp at hw hok <;> omega
    · rw [if_neg q1] at hw hok ⊢
      rw [if_neg (fun q => q1 ⟨q.1, by omega, by rw [h1 q.2.1]; exact q.2.2⟩)]
      by_cases q2 : b0 / 16 = 14 ∧ (1 < n + k ∧ c1 / 64 = 2) ∧ (2 < n + k ∧ c2 / 64 = 2)
      · by_cases hn2 : 2 < n
        · have e1 := h1 (by omega)
          have e2 := h2 hn2
          subst e1; subst e2
          rw [if_pos q2, if_pos ⟨q2.1, ⟨by omega, q2.2.1.2⟩, hn2, q2.2.2.2⟩]
        · rw [if_pos q2] at hw hok
          exfalso
          split at hw <;> split at hok <;> simp at hw hok <;> omega
      · rw [if_neg q2] at hw hok ⊢
        rw [if_neg (fun q => q2 ⟨q.1, ⟨by omega, by rw [h1 q.2.1.1]; exact q.2.1.2⟩, by omega, by rw [h2 q.2.2.1]; exact q.2.2.2⟩)]
        by_cases q3 : b0 / 8 = 30 ∧ (1 < n + k ∧ c1 / 64 = 2) ∧ (2 < n + k ∧ c2 / 64 = 2) ∧ (3 < n + k ∧ c3 / 64 = 2)
        · by_cases hn3 : 3 < n
          · have e1 := h1 (by omega)
            have e2 := h2 (by omega)
            have e3 := h3 hn3
            subst e1; subst e2; subst e3
            rw [if_pos q3, if_pos ⟨q3.1, ⟨by omega, q3.2.1.2⟩, ⟨by omega, q3.2.2.1.2⟩, hn3, q3.2.2.2.2⟩]
          · rw [if_pos q3] at hw hok
            exfalso
            split at hw <;> split at hok <;> simp at hw hok <;> omega
        · rw [if_neg q3] at hok
          simp at hok
theorem decode_fit (a b : ByteArray) (pos : Nat) (h : pos < a.size) (hw : pos + (Utf8.decode (a ++ b) pos).2 ≤ a.size) (hok : ¬ ((Utf8.decode (a ++ b) pos).1 = 65533 ∧ (Utf8.decode (a ++ b) pos).2 = 1)) : Utf8.decode a pos = Utf8.decode (a ++ b) pos := by
  have e : (a ++ b).size - pos = (a.size - pos) + b.size := by rw [size_append]; omega
  rw [decode_at, e] at hw hok
  rw [decode_at, decode_at, e]
  rw [get!_left a b pos h] at hw hok ⊢
  refine decodeN_fit _ _ _ _ _ _ _ _ _ (by omega) (fun h1 => ?_) (fun h1 => ?_) (fun h1 => ?_) (by omega) hok
  · rw [get!_left a b _ (by omega)]
  · rw [get!_left a b _ (by omega)]
  · rw [get!_left a b _ (by omega)]
/-- Where a scalar begins, or the text ends. -/
def Bnd (s : ByteArray) (a : Nat) : Prop := ∃ l1 l2, items s = l1 ++ l2 ∧ sumW l1 = a
theorem bnd_zero (s : ByteArray) : Bnd s 0 := ⟨[], items s, rfl, rfl⟩
theorem bnd_size (s : ByteArray) : Bnd s s.size := ⟨items s, [], by simp, sumW_items s⟩
theorem bnd_le {s : ByteArray} {a : Nat} (h : Bnd s a) : a ≤ s.size := by
  obtain ⟨l1, l2, h1, rfl⟩ := h
  rw [← sumW_items s, h1, sumW_append]; omega
/-- The items of a beginning and of an ending that meet where a scalar begins. -/
theorem itemsF_parts (p q : ByteArray) : ∀ (l1 l2 : List (Nat × Nat)) (f pos : Nat), (p ++ q).size - pos ≤ f → okL (l1 ++ l2) = true → itemsF (p ++ q) f pos = l1 ++ l2 → pos + sumW l1 = p.size →
    (∀ g, p.size - pos ≤ g → itemsF p g pos = l1) ∧ l2 = items q
  | [], l2, f, pos, hf, hok, h, hp => by
    simp only [sumW, Nat.add_zero] at hp
    subst hp
    refine ⟨fun g _ => itemsF_end p g _ (by omega), ?_⟩
    have hr := itemsF_right p q f 0
    rw [Nat.add_zero] at hr
    rw [List.nil_append] at h
    rw [← h, hr]
    exact itemsF_fuel q _ _ 0 (by rw [size_append] at hf; omega) (by omega)
  | x :: t, l2, f, pos, hf, hok, h, hp => by
    simp only [sumW] at hp
    by_cases hlt : pos < (p ++ q).size
    · obtain ⟨f, rfl⟩ : ∃ k, f = k + 1 := ⟨f - 1, by omega⟩
      have hw := width_pos (p ++ q) pos hlt
      rw [itemsF_step _ f pos hlt, List.cons_append, List.cons.injEq] at h
      obtain ⟨rfl, h⟩ := h
      have hpl : pos < p.size := by omega
      simp only [List.cons_append, okL] at hok
      split at hok
      · cases hok
      · rename_i hne
        obtain ⟨k1, k2⟩ := itemsF_parts p q t l2 f _ (by omega) hok h (by omega)
        refine ⟨fun g hg => ?_, k2⟩
        obtain ⟨g, rfl⟩ : ∃ k, g = k + 1 := ⟨g - 1, by omega⟩
        have hd := decode_fit p q pos hpl (by omega) hne
        rw [itemsF_step p g pos hpl, hd, k1 g (by omega)]
    · rw [itemsF_end _ f pos hlt] at h
      simp at h
theorem items_parts (p q : ByteArray) (l1 l2 : List (Nat × Nat)) (hok : okB (p ++ q) = true) (h : items (p ++ q) = l1 ++ l2) (hp : sumW l1 = p.size) : items p = l1 ∧ items q = l2 ∧ okB p = true ∧ okB q = true := by
  have hok' : okL (l1 ++ l2) = true := by rw [← h]; exact hok
  obtain ⟨k1, k2⟩ := itemsF_parts p q l1 l2 (p ++ q).size 0 (by omega) hok' h (by omega)
  have e1 : items p = l1 := k1 _ (by omega)
  refine ⟨e1, k2.symm, ?_, ?_⟩
  · unfold okB; rw [e1]; exact ((okL_app l1 l2).1 hok').1
  · unfold okB; rw [← k2]; exact ((okL_app l1 l2).1 hok').2
theorem cut_app (s : ByteArray) (a : Nat) (h : a ≤ s.size) : s.extract 0 a ++ s.extract a s.size = s := by
  apply ByteArray.ext
  simp only [ByteArray.data_append, ByteArray.data_extract]
  rw [Array.extract_append_extract]
  have h2 : s.data.size = s.size := rfl
  rw [Nat.min_eq_left (Nat.zero_le _), Nat.max_eq_right h, ← h2, Array.extract_size]
/-- A right text, cut where a scalar begins: both parts are right. -/
theorem cut_ok {s : ByteArray} {a : Nat} (hok : okB s = true) (h : Bnd s a) : okB (s.extract 0 a) = true ∧ okB (s.extract a s.size) = true ∧ items s = items (s.extract 0 a) ++ items (s.extract a s.size) := by
  have hle := bnd_le h
  obtain ⟨l1, l2, h1, h2⟩ := h
  have e := cut_app s a hle
  have hz : (s.extract 0 a).size = a := by rw [size_extract s 0 a (by omega) hle]; omega
  obtain ⟨k1, k2, k3, k4⟩ := items_parts (s.extract 0 a) (s.extract a s.size) l1 l2 (by rw [e]; exact hok) (by rw [e]; exact h1) (by rw [hz]; exact h2)
  exact ⟨k3, k4, by rw [k1, k2]; exact h1⟩
theorem bnd_iff {s : ByteArray} {a : Nat} (hok : okB s = true) (ha : a ≤ s.size) : Bnd s a ↔ okB (s.extract 0 a) = true := by
  constructor
  · intro h; exact (cut_ok hok h).1
  · intro h
    have e := items_append (s.extract 0 a) (s.extract a s.size) h
    rw [cut_app s a ha] at e
    exact ⟨_, _, e, by rw [sumW_items, size_extract s 0 a (by omega) ha]; omega⟩
theorem bnd_app_left {p q : ByteArray} {a : Nat} (hp : okB p = true) (h : Bnd p a) : Bnd (p ++ q) a := by
  obtain ⟨l1, l2, h1, h2⟩ := h
  exact ⟨l1, l2 ++ items q, by rw [items_append p q hp, h1, List.append_assoc], h2⟩
theorem bnd_app_right {p q : ByteArray} {a : Nat} (hp : okB p = true) (h : Bnd q a) : Bnd (p ++ q) (p.size + a) := by
  obtain ⟨l1, l2, h1, h2⟩ := h
  exact ⟨items p ++ l1, l2, by rw [items_append p q hp, h1, List.append_assoc], by rw [sumW_append, sumW_items, h2]⟩
/-- Between two places where scalars begin. -/
theorem mid_ok {s : ByteArray} {a b : Nat} (hok : okB s = true) (ha : Bnd s a) (hb : Bnd s b) (hab : a ≤ b) : okB (s.extract a b) = true := by
  obtain ⟨k1, k2, k3⟩ := cut_ok hok ha
  obtain ⟨l1, l2, h1, h2⟩ := hb
  have hza : (s.extract 0 a).size = a := by rw [size_extract s 0 a (by omega) (bnd_le ha)]; omega
  have hble : b ≤ s.size := bnd_le ⟨l1, l2, h1, h2⟩
  -- the items of the beginning are a part of l1
  obtain ⟨m, hm⟩ : ∃ m, l1 = items (s.extract 0 a) ++ m := by
    have e : items (s.extract 0 a) ++ items (s.extract a s.size) = l1 ++ l2 := by rw [← k3, h1]
    rcases List.append_eq_append_iff.1 e with ⟨m, h3, _⟩ | ⟨m, h3, h4⟩
    · exact ⟨m, h3⟩
    · have e3 : sumW (items (s.extract 0 a)) = a := by rw [sumW_items, hza]
      rw [h3, sumW_append, h2] at e3
      have hm0 : sumW m = 0 := by omega
      have hwide : Wide m := fun x hx => itemsF_wide s s.size 0 x (by show x ∈ items s; rw [h1, h4]; simp [hx])
      cases m with
      | nil => exact ⟨[], by simpa using h3.symm⟩
      | cons x t => have := hwide x (by simp); simp only [sumW] at hm0; omega
  have hq : Bnd (s.extract a s.size) (b - a) := by
    refine ⟨m, l2, ?_, ?_⟩
    · have e : items (s.extract 0 a) ++ items (s.extract a s.size) = items (s.extract 0 a) ++ (m ++ l2) := by rw [← k3, h1, hm, List.append_assoc]
      exact List.append_cancel_left e
    · rw [hm, sumW_append, sumW_items, hza] at h2; omega
  have := (cut_ok k2 hq).1
  have e : (s.extract a s.size).extract 0 (b - a) = s.extract a b := by
    apply ByteArray.ext
    simp only [ByteArray.data_extract, Array.extract_extract]
    congr 1
    omega
  rw [e] at this
  exact this

/-! ### Bytes 10, and places -/
theorem decodeN_low (n b0 b1 b2 b3 : Nat) (h : b0 < 128) : decodeN n b0 b1 b2 b3 = (b0, 1) := by unfold decodeN; rw [if_pos h]
/-- Of a right scalar of several bytes none but the first is below 128. -/
theorem decodeN_rest (n b0 b1 b2 b3 : Nat) (hok : ¬ ((decodeN n b0 b1 b2 b3).1 = 65533 ∧ (decodeN n b0 b1 b2 b3).2 = 1)) :
    (1 < (decodeN n b0 b1 b2 b3).2 → 128 ≤ b0 ∧ 128 ≤ b1) ∧ (2 < (decodeN n b0 b1 b2 b3).2 → 128 ≤ b2) ∧ (3 < (decodeN n b0 b1 b2 b3).2 → 128 ≤ b3) := by
  unfold decodeN at hok ⊢
  by_cases c0 : b0 < 128
  · rw [if_pos c0]; simp
  · rw [if_neg c0] at hok ⊢
    by_cases q1 : b0 / 32 = 6 ∧ (1 < n ∧ b1 / 64 = 2)
    · rw [if_pos q1] at hok ⊢
      split <;> simp <;> omega
    · rw [if_neg q1] at hok ⊢
      by_cases q2 : b0 / 16 = 14 ∧ (1 < n ∧ b1 / 64 = 2) ∧ (2 < n ∧ b2 / 64 = 2)
      · rw [if_pos q2] at hok ⊢
        split <;> simp <;> omega
      · rw [if_neg q2] at hok ⊢
        by_cases q3 : b0 / 8 = 30 ∧ (1 < n ∧ b1 / 64 = 2) ∧ (2 < n ∧ b2 / 64 = 2) ∧ (3 < n ∧ b3 / 64 = 2)
        · rw [if_pos q3] at hok ⊢
          split <;> simp <;> omega
        · rw [if_neg q3] at hok; simp at hok
theorem decodeN_wide (n b0 b1 b2 b3 : Nat) : (decodeN n b0 b1 b2 b3).2 ≤ 4 := by
  unfold decodeN
  repeat' split
  all_goals (simp only; omega)
/-- A byte below 128 within a right text is a scalar of its own. -/
theorem low_here (s : ByteArray) : ∀ (f pos i : Nat), s.size - pos ≤ f → okL (itemsF s f pos) = true → pos ≤ i → i < s.size → (s.get! i).toNat < 128 → ∃ l1 l2, itemsF s f pos = l1 ++ (s.get! i |>.toNat, 1) :: l2 ∧ pos + sumW l1 = i
  | 0, pos, i, hf, _, hp, hi, _ => by omega
  | f + 1, pos, i, hf, hok, hp, hi, hlow => by
    have hlt : pos < s.size := by omega
    rw [itemsF_step s f pos hlt] at hok ⊢
    simp only [okL] at hok
    split at hok
    · cases hok
    · rename_i hne
      rcases Nat.lt_or_ge pos i with h1 | h1
      · have hw := width_pos s pos hlt
        by_cases h2 : i < pos + (Utf8.decode s pos).2
        · exfalso
          have hd := decode_at s pos
          rw [hd] at hne h2
          have hr := decodeN_rest _ _ _ _ _ hne
          have h4 := decodeN_wide (s.size - pos) (s.get! pos).toNat (s.get! (pos + 1)).toNat (s.get! (pos + 2)).toNat (s.get! (pos + 3)).toNat
          rcases Nat.lt_or_ge (i - pos) 2 with h | h
          · obtain rfl : i = pos + 1 := by omega
            have := (hr.1 (by omega)).2; omega
          · rcases Nat.lt_or_ge (i - pos) 3 with h | h
            · obtain rfl : i = pos + 2 := by omega
              have := hr.2.1 (by omega); omega
            · obtain rfl : i = pos + 3 := by omega
              have := hr.2.2 (by omega); omega
        · obtain ⟨l1, l2, e1, e2⟩ := low_here s f _ i (by omega) hok (by omega) hi hlow
          exact ⟨Utf8.decode s pos :: l1, l2, by rw [e1]; rfl, by simp only [sumW]; omega⟩
      · obtain rfl : i = pos := by omega
        refine ⟨[], itemsF s f (i + (Utf8.decode s i).2), ?_, by simp [sumW]⟩
        rw [List.nil_append]
        congr 1
        rw [decode_at, decodeN_low _ _ _ _ _ hlow]
theorem bnd_low {s : ByteArray} {i : Nat} (hok : okB s = true) (hi : i < s.size) (hlow : (s.get! i).toNat < 128) : Bnd s i ∧ Bnd s (i + 1) := by
  obtain ⟨l1, l2, h1, h2⟩ := low_here s s.size 0 i (by omega) hok (by omega) hi hlow
  refine ⟨⟨l1, _, h1, by omega⟩, ⟨l1 ++ [(_, 1)], l2, by rw [List.append_assoc]; exact h1, ?_⟩⟩
  rw [sumW_append]; simp only [sumW]; omega
theorem ends_mem {s : ByteArray} {x : Nat} (h : x ∈ ends s) : x < s.size ∧ (s.get! x).toNat = 10 := by
  unfold ends endsTo at h
  rw [List.mem_filter] at h
  refine ⟨by simpa using h.1, ?_⟩
  have := h.2
  unfold nlAt at this
  simpa using this
theorem ends_nl {s : ByteArray} {i : Nat} (h : i < (ends s).length) : (ends s).getD i 0 < s.size ∧ (s.get! ((ends s).getD i 0)).toNat = 10 := by
  refine ends_mem ?_
  rw [List.getD_eq_getElem?_getD, List.getElem?_eq_getElem h, Option.getD_some]; exact List.getElem_mem h
/-- A line begins, and ends, where a scalar begins, or the text ends; it is right. -/
theorem line_bnd {s : ByteArray} {n : Nat} (hok : okB s = true) (hn : n ≤ (ends s).length) : Bnd s (nx (ends s) n) ∧ Bnd s (en (ends s) s.size n) := by
  constructor
  · cases n with
    | zero => rw [nx_zero]; exact bnd_zero s
    | succ n =>
      rw [nx_succ]
      obtain ⟨h1, h2⟩ := ends_nl (s := s) (i := n) (by omega)
      exact (bnd_low hok h1 (by omega)).2
  · by_cases h : n < (ends s).length
    · rw [en_at _ _ _ h]
      obtain ⟨h1, h2⟩ := ends_nl h
      exact (bnd_low hok h1 (by omega)).1
    · obtain rfl : n = (ends s).length := by omega
      rw [en_last]; exact bnd_size s
theorem line_ok {s : ByteArray} {n : Nat} (hok : okB s = true) (hn : n ≤ (ends s).length) : okB (ln s n) = true :=
  mid_ok hok (line_bnd hok hn).1 (line_bnd hok hn).2 (nx_le_en (rise_ends s) n hn).1
theorem off_bnd : ∀ (l : List (Nat × Nat)) (pos ahead : Nat) (unit : Int) (a : Nat), off l pos ahead unit = ((a : Int), 0) → ∃ l1 l2, l = l1 ++ l2 ∧ pos + sumW l1 = a
  | [], pos, ahead, unit, a, h => by
    simp only [off] at h
    split at h
    · simp only [Prod.mk.injEq, and_true] at h; exact ⟨[], [], rfl, by simp only [sumW]; omega⟩
    · simp at h
  | x :: t, pos, ahead, unit, a, h => by
    simp only [off] at h
    split at h
    · simp only [Prod.mk.injEq, and_true] at h; exact ⟨[], x :: t, rfl, by simp only [sumW]; omega⟩
    · obtain ⟨l1, l2, h1, h2⟩ := off_bnd t _ _ unit a h
      exact ⟨x :: l1, l2, by rw [h1]; rfl, by simp only [sumW]; omega⟩
theorem bnd_up {s : ByteArray} {b e x : Nat} (hok : okB s = true) (hb : Bnd s b) (he : Bnd s e) (hbe : b ≤ e) (hx : Bnd (s.extract b e) x) : Bnd s (b + x) := by
  have hle := bnd_le he
  obtain ⟨k1, k2, k3⟩ := cut_ok hok he
  have hm := mid_ok hok hb he hbe
  have e1 : s.extract 0 e = s.extract 0 b ++ s.extract b e := by
    apply ByteArray.ext
    simp only [ByteArray.data_append, ByteArray.data_extract]
    rw [Array.extract_append_extract, Nat.min_eq_left (Nat.zero_le _), Nat.max_eq_right hbe]
  have h1 := bnd_app_right (q := s.extract b e) (cut_ok hok hb).1 hx
  rw [← e1, size_extract s 0 b (by omega) (by omega), Nat.sub_zero] at h1
  have h2 := bnd_app_left (q := s.extract e s.size) k1 h1
  rw [cut_app s e hle] at h2
  exact h2
/-- The offset of a place is one where a scalar begins, or the text ends. -/
theorem offL_bnd {s : ByteArray} {l u : Int} {a : Nat} (hok : okB s = true) (h : offL s l u = ((a : Int), 0)) : Bnd s a := by
  unfold offL at h
  split at h
  · rename_i hl
    have hn : l.toNat ≤ (ends s).length := by omega
    rcases offB_or (ln s l.toNat) u with ⟨x, hx, hxz⟩ | hx | hx
    · rw [hx] at h
      simp only [if_true, Prod.mk.injEq, and_true] at h
      have hb : Bnd (ln s l.toNat) x := by
        unfold offB at hx
        rw [if_pos (line_ok hok hn)] at hx
        obtain ⟨l1, l2, h1, h2⟩ := off_bnd _ _ _ _ _ hx
        exact ⟨l1, l2, h1, by omega⟩
      have := bnd_up hok (line_bnd hok hn).1 (line_bnd hok hn).2 (nx_le_en (rise_ends s) _ hn).1 hb
      rw [show nx (ends s) l.toNat + x = a by omega] at this
      exact this
    · rw [hx] at h; simp at h
    · rw [hx] at h; simp at h
  · simp at h
theorem uni_bnd : ∀ (l1 l2 : List (Nat × Nat)) (pos ahead : Nat), Wide (l1 ++ l2) → uni (l1 ++ l2) pos ahead ((pos + sumW l1 : Nat) : Int) = (((ahead + sumU l1 : Nat) : Int), 0)
  | [], l2, pos, ahead, _ => by simp only [sumW, sumU, Nat.add_zero, List.nil_append]; exact uni_hit _ _ _ _ rfl
  | x :: t, l2, pos, ahead, hw => by
    have hx := hw x (by simp)
    simp only [List.cons_append, uni, sumW, sumU]
    rw [if_neg (by omega)]
    have := uni_bnd t l2 (pos + x.2) (ahead + uw x.1) (fun y hy => hw y (by simp only [List.cons_append]; exact List.mem_cons_of_mem _ hy))
    rw [show pos + x.2 + sumW t = pos + (x.2 + sumW t) by omega, show ahead + uw x.1 + sumU t = ahead + (uw x.1 + sumU t) by omega] at this
    exact this
theorem bnd_down {s : ByteArray} {b e x : Nat} (hok : okB s = true) (hb : Bnd s b) (he : Bnd s e) (hx : Bnd s x) (h1 : b ≤ x) (h2 : x ≤ e) : Bnd (s.extract b e) (x - b) := by
  have hm := mid_ok hok hb he (by omega)
  have hle := bnd_le he
  rw [bnd_iff hm (by rw [size_extract s b e (by omega) hle]; omega)]
  have e1 : (s.extract b e).extract 0 (x - b) = s.extract b x := by
    apply ByteArray.ext
    simp only [ByteArray.data_extract, Array.extract_extract]
    congr 1
    omega
  rw [e1]
  exact mid_ok hok hb hx h1
/-- Where a scalar begins, and at the end, there is a place. -/
theorem placeL_bnd {s : ByteArray} {x : Nat} (hok : okB s = true) (h : Bnd s x) : ∃ n u : Nat, placeL s x = ((n : Int), (u : Int), 0) := by
  have hxz := bnd_le h
  have hn := ahead_le (ends s) (x : Int)
  obtain ⟨b1, b2⟩ := ahead_bounds (rise_ends s) (x : Int) (by omega)
  have he : x ≤ en (ends s) s.size (ahead (ends s) x) := by
    by_cases hlt : ahead (ends s) (x : Int) < (ends s).length
    · rw [en_at _ _ _ hlt]; have := b2 hlt; omega
    · have e1 : ahead (ends s) (x : Int) = (ends s).length := by omega
      rw [e1, en_last]; exact hxz
  have hb := bnd_down hok (line_bnd hok hn).1 (line_bnd hok hn).2 h (by omega) he
  obtain ⟨l1, l2, h1, h2⟩ := hb
  have hu : uniB (ln s (ahead (ends s) (x : Int))) ((x : Int) - (nx (ends s) (ahead (ends s) (x : Int)) : Int)) = (((0 + sumU l1 : Nat) : Int), 0) := by
    unfold uniB
    rw [if_pos (line_ok hok hn)]
    have := uni_bnd l1 l2 0 0 (by rw [← h1]; exact itemsF_wide _ _ _)
    rw [← h1] at this
    rw [show (x : Int) - (nx (ends s) (ahead (ends s) (x : Int)) : Int) = ((0 + sumW l1 : Nat) : Int) by omega]
    exact this
  refine ⟨ahead (ends s) x, 0 + sumU l1, ?_⟩
  unfold placeL
  rw [hu]
  simp
end Go.Proofs.YtapjomdplibanaaDoor.L

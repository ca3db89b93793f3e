/- Plain facts about edits: the longest right beginning, and ending, that two texts have both; what an edit makes of a text; that it is right. It imports nothing of the program. -/
import Derived.Test.YtccmicmlkgkheaaDoorLBnd
namespace Go.Proofs.YtccmicmlkgkheaaDoor.E
open Go.Lib Go.Proofs.YtccmicmlkgkheaaDoor.U Go.Proofs.YtccmicmlkgkheaaDoor.L

/-- The first so many bytes, and what stands behind them. -/
abbrev hd (s : ByteArray) (k : Nat) : ByteArray := s.extract 0 k
abbrev tl (s : ByteArray) (k : Nat) : ByteArray := s.extract k s.size
theorem hd_size {s : ByteArray} {k : Nat} (h : k ≤ s.size) : (hd s k).size = k := by rw [size_extract s 0 k (by omega) h]; omega
theorem tl_size {s : ByteArray} {k : Nat} (h : k ≤ s.size) : (tl s k).size = s.size - k := size_extract s k s.size h (Nat.le_refl _)
theorem hd_all (s : ByteArray) : hd s s.size = s := by
  apply ByteArray.ext
  simp only [ByteArray.data_extract]
  have h2 : s.data.size = s.size := rfl
  rw [← h2, Array.extract_size]
theorem tl_zero (s : ByteArray) : tl s 0 = s := hd_all s
theorem okB_nil : okB ⟨#[]⟩ = true := by kernel_rfl
theorem size_nil {s : ByteArray} (h : s.size = 0) : s = ⟨#[]⟩ := by
  apply ByteArray.ext
  apply Array.eq_empty_of_size_eq_zero
  exact h
theorem hd_zero (s : ByteArray) : hd s 0 = ⟨#[]⟩ := size_nil (by rw [hd_size (Nat.zero_le _)])

/-- The longest right beginning that both have. -/
structure Beg (a b : ByteArray) (n : Nat) : Prop where
  la : n ≤ a.size
  lb : n ≤ b.size
  same : hd a n = hd b n
  ok : okB (hd a n) = true
  most : ∀ m, m ≤ a.size → m ≤ b.size → hd a m = hd b m → okB (hd a m) = true → m ≤ n
/-- The longest right ending that both have. -/
structure Fin (a b : ByteArray) (k : Nat) : Prop where
  la : k ≤ a.size
  lb : k ≤ b.size
  same : tl a (a.size - k) = tl b (b.size - k)
  ok : okB (tl a (a.size - k)) = true
  most : ∀ m, m ≤ a.size → m ≤ b.size → tl a (a.size - m) = tl b (b.size - m) → okB (tl a (a.size - m)) = true → m ≤ k
theorem Beg.one {a b : ByteArray} {n m : Nat} (h : Beg a b n) (k : Beg a b m) : n = m :=
  Nat.le_antisymm (k.most n h.la h.lb h.same h.ok) (h.most m k.la k.lb k.same k.ok)
theorem Fin.one {a b : ByteArray} {n m : Nat} (h : Fin a b n) (k : Fin a b m) : n = m :=
  Nat.le_antisymm (k.most n h.la h.lb h.same h.ok) (h.most m k.la k.lb k.same k.ok)
theorem Beg.flip {a b : ByteArray} {n : Nat} (h : Beg a b n) : Beg b a n :=
  ⟨h.lb, h.la, h.same.symm, by rw [← h.same]; exact h.ok, fun m h1 h2 h3 h4 => h.most m h2 h1 h3.symm (by rw [← h3]; exact h4)⟩
theorem Fin.flip {a b : ByteArray} {n : Nat} (h : Fin a b n) : Fin b a n :=
  ⟨h.lb, h.la, h.same.symm, by rw [← h.same]; exact h.ok, fun m h1 h2 h3 h4 => h.most m h2 h1 h3.symm (by rw [← h3]; exact h4)⟩
theorem Beg.self (a : ByteArray) (h : okB a = true) : Beg a a a.size :=
  ⟨Nat.le_refl _, Nat.le_refl _, rfl, by rw [hd_all]; exact h, fun _ h1 _ _ _ => h1⟩
/-- Where a scalar begins, behind which the rest is right. -/
theorem bnd_tail {s : ByteArray} {a : Nat} (hok : okB s = true) (ha : a ≤ s.size) (h : okB (hd s a) = true) : Bnd s a ∧ okB (tl s a) = true := by
  have hb := (bnd_iff hok ha).2 h
  exact ⟨hb, (cut_ok hok hb).2.1⟩
/-- A right ending of a right text begins where a scalar begins. -/
theorem bnd_of_tail {s : ByteArray} {a : Nat} (hok : okB s = true) (ha : a ≤ s.size) (h : okB (tl s a) = true) : Bnd s a := by
  rcases Nat.lt_or_ge a s.size with hlt | hge
  · -- the scalar that the place is in
    have key : ∀ (f pos : Nat), s.size - pos ≤ f → pos ≤ a → okL (itemsF s f pos) = true → ∃ l1 l2, itemsF s f pos = l1 ++ l2 ∧ pos + sumW l1 ≤ a ∧ (pos + sumW l1 = a ∨ (pos + sumW l1 < s.size ∧ pos + sumW l1 < a ∧ a < pos + sumW l1 + (Utf8.decode s (pos + sumW l1)).2 ∧ ¬ ((Utf8.decode s (pos + sumW l1)).1 = 65533 ∧ (Utf8.decode s (pos + sumW l1)).2 = 1))) := by
      intro f
      induction f with
      | zero => intro pos hf hp _; omega
      | succ f ih =>
        intro pos hf hp hk
        have hps : pos < s.size := by omega
        by_cases he : pos = a
        · exact ⟨[], _, rfl, by simp only [sumW]; omega, .inl (by simp only [sumW]; omega)⟩
        · rw [itemsF_step s f pos hps] at hk ⊢
          simp only [okL] at hk
          split at hk
          · cases hk
          · rename_i hne
            have hw := width_pos s pos hps
            by_cases h2 : a < pos + (Utf8.decode s pos).2
            · exact ⟨[], _, rfl, by simp only [sumW]; omega, .inr ⟨by simp only [sumW]; omega, by simp only [sumW]; omega, by simp only [sumW, Nat.add_zero]; exact h2, by simp only [sumW, Nat.add_zero]; exact hne⟩⟩
            · obtain ⟨l1, l2, h3, h4, h5⟩ := ih _ (by omega) (by omega) hk
              refine ⟨Utf8.decode s pos :: l1, l2, by rw [h3]; rfl, by simp only [sumW]; omega, ?_⟩
              simp only [sumW, ← Nat.add_assoc]
              exact h5
    obtain ⟨l1, l2, h1, h2, h3⟩ := key s.size 0 (by omega) (by omega) hok
    rcases h3 with h3 | ⟨h3, h4, h5, h6⟩
    · exact ⟨l1, l2, h1, by omega⟩
    · exfalso
      -- the first byte of the ending is one that goes on
      have hz : (s.get! a).toNat / 64 = 2 := by
        have hd' := decode_at s (0 + sumW l1)
        rw [hd'] at h5 h6
        have hcont : ∀ n b0 b1 b2 b3, ¬ ((decodeN n b0 b1 b2 b3).1 = 65533 ∧ (decodeN n b0 b1 b2 b3).2 = 1) → (1 < (decodeN n b0 b1 b2 b3).2 → b1 / 64 = 2) ∧ (2 < (decodeN n b0 b1 b2 b3).2 → b2 / 64 = 2) ∧ (3 < (decodeN n b0 b1 b2 b3).2 → b3 / 64 = 2) := by
          intro n b0 b1 b2 b3 hbad
          unfold decodeN at hbad ⊢
          by_cases c0 : b0 < 128
          · rw [if_pos c0]; simp
          · rw [if_neg c0] at hbad ⊢
            by_cases q1 : b0 / 32 = 6 ∧ (1 < n ∧ b1 / 64 = 2)
            · rw [if_pos q1] at hbad ⊢; split <;> simp <;> omega
            · rw [if_neg q1] at hbad ⊢
              by_cases q2 : b0 / 16 = 14 ∧ (1 < n ∧ b1 / 64 = 2) ∧ (2 < n ∧ b2 / 64 = 2)
              · rw [if_pos q2] at hbad ⊢; split <;> simp <;> omega
              · rw [if_neg q2] at hbad ⊢
                by_cases q3 : b0 / 8 = 30 ∧ (1 < n ∧ b1 / 64 = 2) ∧ (2 < n ∧ b2 / 64 = 2) ∧ (3 < n ∧ b3 / 64 = 2)
                · rw [if_pos q3] at hbad ⊢; split <;> simp <;> omega
                · rw [if_neg q3] at hbad; simp at hbad
        have hr := hcont _ _ _ _ _ h6
        have h7 := decodeN_wide (s.size - (0 + sumW l1)) (s.get! (0 + sumW l1)).toNat (s.get! (0 + sumW l1 + 1)).toNat (s.get! (0 + sumW l1 + 2)).toNat (s.get! (0 + sumW l1 + 3)).toNat
        rcases Nat.lt_or_ge (a - (0 + sumW l1)) 2 with h | h
        · have e : a = 0 + sumW l1 + 1 := by omega
          rw [e]; exact hr.1 (by omega)
        · rcases Nat.lt_or_ge (a - (0 + sumW l1)) 3 with h | h
          · have e : a = 0 + sumW l1 + 2 := by omega
            rw [e]; exact hr.2.1 (by omega)
          · have e : a = 0 + sumW l1 + 3 := by omega
            rw [e]; exact hr.2.2 (by omega)
      -- a right text does not begin so
      have hts : 0 < (tl s a).size := by rw [tl_size ha]; omega
      have hg : (tl s a).get! 0 = s.get! a := by
        have e := cut_app s a ha
        have h8 := get!_right (hd s a) (tl s a) 0
        rw [hd_size ha, Nat.add_zero, e] at h8
        exact h8.symm
      unfold okB items at h
      obtain ⟨f, hf⟩ : ∃ f, (tl s a).size = f + 1 := ⟨(tl s a).size - 1, by omega⟩
      rw [hf, itemsF_step _ f 0 hts] at h
      simp only [okL] at h
      split at h
      · cases h
      · rename_i hne
        refine hne ?_
        have hb : ∀ n b0 b1 b2 b3, b0 / 64 = 2 → decodeN n b0 b1 b2 b3 = (65533, 1) := by
          intro n b0 b1 b2 b3 hb0
          unfold decodeN
          rw [if_neg (by omega), if_neg (fun q => by omega), if_neg (fun q => by omega), if_neg (fun q => by omega)]
        rw [decode_at, hb _ _ _ _ _ (by rw [hg]; exact hz)]
        exact ⟨rfl, rfl⟩
  · obtain rfl : a = s.size := by omega
    exact bnd_size s

/-- What an edit between two bytes makes of a text. -/
def put (s : ByteArray) (a b : Nat) (t : ByteArray) : ByteArray := hd s a ++ t ++ tl s b
theorem put_size {s t : ByteArray} {a b : Nat} (ha : a ≤ s.size) (hb : b ≤ s.size) : (put s a b t).size = a + t.size + (s.size - b) := by
  unfold put; rw [size_append, size_append, hd_size ha, tl_size hb]
theorem put_ok {s t : ByteArray} {a b : Nat} (hs : okB s = true) (ht : okB t = true) (ha : Bnd s a) (hb : Bnd s b) : okB (put s a b t) = true :=
  okB_append _ _ (okB_append _ _ (cut_ok hs ha).1 ht) (cut_ok hs hb).2.1

/-! ### The edit between two texts -/
theorem tl_tl {s : ByteArray} {n k : Nat} (hn : n ≤ s.size) (hk : k ≤ (tl s n).size) : tl (tl s n) ((tl s n).size - k) = tl s (s.size - k) := by
  rw [tl_size hn] at hk
  apply ByteArray.ext
  simp only [ByteArray.data_extract, Array.extract_extract]
  rw [tl_size hn]
  have h2 : s.data.size = s.size := rfl
  congr 1
  · omega
  · omega
/-- What Between answers, in bytes: from n on, up to the last k, what stands there in the other one. -/
structure Betw (a b : ByteArray) (n k : Nat) : Prop where
  beg : Beg a b n
  fin : Fin (tl a n) (tl b n) k
theorem Betw.flip {a b : ByteArray} {n k : Nat} (h : Betw a b n k) : Betw b a n k := ⟨h.beg.flip, h.fin.flip⟩
theorem Betw.one {a b : ByteArray} {n k m j : Nat} (h : Betw a b n k) (h' : Betw a b m j) : n = m ∧ k = j := by
  obtain rfl := h.beg.one h'.beg
  exact ⟨rfl, h.fin.one h'.fin⟩
theorem Betw.le {a b : ByteArray} {n k : Nat} (h : Betw a b n k) : n + k ≤ a.size ∧ n + k ≤ b.size := by
  have h1 := h.fin.la
  have h2 := h.fin.lb
  rw [tl_size h.beg.la] at h1
  rw [tl_size h.beg.lb] at h2
  have := h.beg.la
  have := h.beg.lb
  omega
theorem Betw.bnds {a b : ByteArray} {n k : Nat} (h : Betw a b n k) (ha : okB a = true) (hb : okB b = true) : Bnd a n ∧ Bnd a (a.size - k) ∧ Bnd b n ∧ Bnd b (b.size - k) ∧ okB (b.extract n (b.size - k)) = true := by
  obtain ⟨l1, l2⟩ := h.le
  have h1 := (bnd_iff ha h.beg.la).2 h.beg.ok
  have h2 := (bnd_iff hb h.beg.lb).2 (show okB (hd b n) = true by rw [← h.beg.same]; exact h.beg.ok)
  have e1 := tl_tl h.beg.la h.fin.la
  have e2 := tl_tl h.beg.lb h.fin.lb
  have h3 : Bnd a (a.size - k) := bnd_of_tail ha (by omega) (by rw [← e1]; exact h.fin.ok)
  have h4 : Bnd b (b.size - k) := bnd_of_tail hb (by omega) (by rw [← e2, ← h.fin.same]; exact h.fin.ok)
  exact ⟨h1, h3, h2, h4, mid_ok hb h2 h4 (by omega)⟩
theorem Betw.back {a b : ByteArray} {n k : Nat} (h : Betw a b n k) : put a n (a.size - k) (b.extract n (b.size - k)) = b := by
  obtain ⟨l1, l2⟩ := h.le
  have e1 := tl_tl h.beg.la h.fin.la
  have e2 := tl_tl h.beg.lb h.fin.lb
  unfold put
  rw [h.beg.same, ← e1, h.fin.same, e2]
  apply ByteArray.ext
  simp only [ByteArray.data_append, ByteArray.data_extract]
  have h2 : b.data.size = b.size := rfl
  rw [Array.extract_append_extract, Nat.min_eq_left (Nat.zero_le _), Nat.max_eq_right (by omega), Array.extract_append_extract, Nat.min_eq_left (Nat.zero_le _), Nat.max_eq_right (by omega), ← h2, Array.extract_size]
/-- The edit is empty just if the texts are one. -/
theorem Betw.none {a b : ByteArray} {n k : Nat} (h : Betw a b n k) (ha : okB a = true) : a = b ↔ (n = a.size - k ∧ n = b.size - k) := by
  obtain ⟨l1, l2⟩ := h.le
  constructor
  · rintro rfl
    obtain rfl := h.beg.one (Beg.self a ha)
    omega
  · rintro ⟨h1, h2⟩
    have e1 := tl_tl h.beg.la h.fin.la
    have e2 := tl_tl h.beg.lb h.fin.lb
    have e3 := h.fin.same
    rw [e1, e2, ← h1, ← h2] at e3
    rw [← cut_app a n h.beg.la, ← cut_app b n h.beg.lb]
    show hd a n ++ tl a n = hd b n ++ tl b n
    rw [h.beg.same, e3]

/-! ### A place hangs on what stands ahead of it -/
theorem ends_app (p q : ByteArray) : ends (p ++ q) = ends p ++ (ends q).map (fun e => p.size + e) := by
  unfold ends endsTo
  rw [size_append, List.range_add, List.filter_append]
  have h1 : (List.range p.size).filter (nlAt (p ++ q)) = (List.range p.size).filter (nlAt p) := by
    apply List.filter_congr
    intro i hi
    unfold nlAt; rw [get!_left p q i (by simpa using hi)]
  have h3 : ((List.range q.size).map (fun x => p.size + x)).filter (nlAt (p ++ q)) = ((List.range q.size).filter (nlAt q)).map (fun e => p.size + e) := by
    rw [List.filter_map]
    congr 1
    apply List.filter_congr
    intro i _
    simp only [Function.comp]
    unfold nlAt; rw [get!_right]
  rw [h1, h3]
theorem ahead_app (p q : ByteArray) : L.ahead (ends (p ++ q)) (p.size : Int) = (ends p).length := by
  unfold L.ahead
  rw [ends_app, List.countP_append, List.countP_eq_length.2, List.countP_eq_zero.2]
  · omega
  · intro e he
    obtain ⟨x, _, rfl⟩ := List.mem_map.1 he
    simp; omega
  · intro e he
    have := (rise_ends p).lt e he
    simp; omega
theorem ahead_end (p : ByteArray) : L.ahead (ends p) (p.size : Int) = (ends p).length := by
  unfold L.ahead
  rw [List.countP_eq_length.2]
  intro e he
  have := (rise_ends p).lt e he
  simp; omega
theorem placeL_app (p q : ByteArray) (hp : okB p = true) (hq : okB q = true) : placeL (p ++ q) (p.size : Int) = placeL p (p.size : Int) := by
  have hs := okB_append p q hp hq
  have hL : (ends p).length ≤ (ends (p ++ q)).length := by rw [ends_app]; simp
  have hnx : nx (ends (p ++ q)) (ends p).length = nx (ends p) (ends p).length := by
    unfold nx
    split
    · rfl
    · rw [ends_app, getD_app1 _ _ _ (by omega)]
  obtain ⟨k1, k2⟩ := nx_le_en (rise_ends p) (ends p).length (Nat.le_refl _)
  rw [en_last] at k1
  have hen : p.size ≤ en (ends (p ++ q)) (p ++ q).size (ends p).length := by
    by_cases h : (ends p).length < (ends (p ++ q)).length
    · rw [en_at _ _ _ h, ends_app]
      have := getD_app2 (ends p) ((ends q).map (fun e => p.size + e)) 0
      rw [Nat.add_zero] at this
      rw [this]
      have hl : 0 < (ends q).length := by rw [ends_app] at h; simp at h; exact h
      rw [getD_map_add _ _ _ hl]; omega
    · have e1 : (ends p).length = (ends (p ++ q)).length := by omega
      rw [e1, en_last, size_append]; omega
  obtain ⟨m1, m2⟩ := nx_le_en (rise_ends (p ++ q)) (ends p).length hL
  have hln : ln (p ++ q) (ends p).length = ln p (ends p).length ++ q.extract 0 (en (ends (p ++ q)) (p ++ q).size (ends p).length - p.size) := by
    unfold ln
    rw [hnx, en_last]
    have e := extract_app2 p q 0 (en (ends (p ++ q)) (p ++ q).size (ends p).length - p.size)
    rw [Nat.add_zero, show p.size + (en (ends (p ++ q)) (p ++ q).size (ends p).length - p.size) = en (ends (p ++ q)) (p ++ q).size (ends p).length by omega] at e
    rw [← e, ← extract_app1 p q _ _ (Nat.le_refl _)]
    apply ByteArray.ext
    simp only [ByteArray.data_append, ByteArray.data_extract]
    rw [Array.extract_append_extract, Nat.min_eq_left k1, Nat.max_eq_right hen]
  have hlp := line_ok hp (Nat.le_refl (ends p).length)
  have hls := line_ok hs hL
  have hz := ln_size p _ (Nat.le_refl (ends p).length)
  rw [en_last] at hz
  have hu : ∀ t : ByteArray, okB (ln p (ends p).length ++ t) = true → uniB (ln p (ends p).length ++ t) ((p.size : Int) - (nx (ends p) (ends p).length : Int)) = (((0 + sumU (items (ln p (ends p).length)) : Nat) : Int), 0) := by
    intro t ht
    unfold uniB
    rw [if_pos ht, items_append _ t hlp]
    have := uni_bnd (items (ln p (ends p).length)) (items t) 0 0 (by rw [← items_append _ t hlp]; exact itemsF_wide _ _ _)
    rw [sumW_items, hz] at this
    rw [show (p.size : Int) - (nx (ends p) (ends p).length : Int) = ((0 + (p.size - nx (ends p) (ends p).length) : Nat) : Int) by omega]
    exact this
  have hp0 := hu ⟨#[]⟩ (by rw [show ln p (ends p).length ++ (⟨#[]⟩ : ByteArray) = ln p (ends p).length by apply ByteArray.ext; simp [ByteArray.data_append]]; exact hlp)
  rw [show ln p (ends p).length ++ (⟨#[]⟩ : ByteArray) = ln p (ends p).length by apply ByteArray.ext; simp [ByteArray.data_append]] at hp0
  have hs0 := hu _ (by rw [← hln]; exact hls)
  rw [← hln] at hs0
  unfold placeL
  rw [ahead_app, ahead_end, hnx, hp0, hs0]
/-- The place of a byte where a scalar begins hangs on what stands ahead of it alone. -/
theorem placeL_hd {s : ByteArray} {x : Nat} (hok : okB s = true) (h : Bnd s x) : placeL s (x : Int) = placeL (hd s x) (x : Int) := by
  have hle := bnd_le h
  obtain ⟨k1, k2, _⟩ := cut_ok hok h
  have := placeL_app (hd s x) (tl s x) k1 k2
  rw [hd_size hle] at this
  have e : hd s x ++ tl s x = s := cut_app s x hle
  rw [e] at this
  exact this
theorem Betw.place {a b : ByteArray} {n k : Nat} (h : Betw a b n k) (ha : okB a = true) (hb : okB b = true) : placeL a (n : Int) = placeL b (n : Int) := by
  obtain ⟨h1, _, h2, _⟩ := h.bnds ha hb
  rw [placeL_hd ha h1, placeL_hd hb h2, h.beg.same]
/-- A place's offset is found again. -/
theorem off_of_bnd {s : ByteArray} {x : Nat} (hok : okB s = true) (h : Bnd s x) : ∃ n u : Nat, placeL s (x : Int) = ((n : Int), (u : Int), 0) ∧ offL s n u = ((x : Int), 0) := by
  obtain ⟨n, u, h1⟩ := placeL_bnd hok h
  exact ⟨n, u, h1, place_back s x n u h1⟩

/-! ### Edits, one by one -/
structure EdP where
  fl : Int
  fu : Int
  tl : Int
  tu : Int
  t : ByteArray
/-- What one edit makes of a text, or the error. -/
def step (s : ByteArray) (e : EdP) : ByteArray × Int :=
  if okB e.t = false then (⟨#[]⟩, 11)
  else if (offL s e.fl e.fu).2 ≠ 0 ∨ (offL s e.tl e.tu).2 ≠ 0 then (⟨#[]⟩, 51)
  else if (offL s e.tl e.tu).1 < (offL s e.fl e.fu).1 then (⟨#[]⟩, 61)
  else if 16384 < (put s (offL s e.fl e.fu).1.toNat (offL s e.tl e.tu).1.toNat e.t).size then (⟨#[]⟩, 73)
  else (put s (offL s e.fl e.fu).1.toNat (offL s e.tl e.tu).1.toNat e.t, 0)
def steps : ByteArray → List EdP → ByteArray × Int
  | s, [] => (s, 0)
  | s, e :: r => if (step s e).2 = 0 then steps (step s e).1 r else (⟨#[]⟩, (step s e).2)
def applyL (s : ByteArray) (l : List EdP) : ByteArray × Int := if okB s = true then steps s l else (⟨#[]⟩, 11)

/-- How one edit goes: the ways apart. -/
theorem step_or (s : ByteArray) (e : EdP) :
    (okB e.t = false ∧ step s e = (⟨#[]⟩, 11)) ∨
    (okB e.t = true ∧ ((offL s e.fl e.fu = (0, 51)) ∨ (∃ a : Nat, offL s e.fl e.fu = ((a : Int), 0)) ∧ offL s e.tl e.tu = (0, 51)) ∧ step s e = (⟨#[]⟩, 51)) ∨
    (∃ a b : Nat, okB e.t = true ∧ offL s e.fl e.fu = ((a : Int), 0) ∧ offL s e.tl e.tu = ((b : Int), 0) ∧ a ≤ s.size ∧ b ≤ s.size ∧
      ((b < a ∧ step s e = (⟨#[]⟩, 61)) ∨ (a ≤ b ∧ 16384 < (put s a b e.t).size ∧ step s e = (⟨#[]⟩, 73)) ∨ (a ≤ b ∧ (put s a b e.t).size ≤ 16384 ∧ step s e = (put s a b e.t, 0)))) := by
  unfold step
  cases ht : okB e.t with
  | false => exact .inl ⟨rfl, by simp⟩
  | true =>
    right
    rcases off_or' s e.fl e.fu with ⟨a, ha, haz, _⟩ | ha
    · rcases off_or' s e.tl e.tu with ⟨b, hb, hbz, _⟩ | hb
      · right
        refine ⟨a, b, rfl, ha, hb, haz, hbz, ?_⟩
        rw [ha, hb]
        simp only [Bool.true_eq_false, if_false, ne_eq, not_true_eq_false, or_self, Int.toNat_natCast]
        by_cases h1 : b < a
        · exact .inl ⟨h1, by rw [if_pos (by omega)]⟩
        · right
          rw [if_neg (by omega)]
          by_cases h2 : 16384 < (put s a b e.t).size
          · exact .inl ⟨by omega, h2, by rw [if_pos h2]⟩
          · exact .inr ⟨by omega, by omega, by rw [if_neg h2]⟩
      · left
        exact ⟨rfl, .inr ⟨⟨a, ha⟩, hb⟩, by rw [ha, hb]; simp⟩
    · left
      exact ⟨rfl, .inl ha, by rw [ha]; simp⟩
theorem step_ok {s r : ByteArray} {e : EdP} (hok : okB s = true) (h : step s e = (r, 0)) : okB r = true ∧ r.size ≤ 16384 := by
  rcases step_or s e with ⟨_, h1⟩ | ⟨_, _, h1⟩ | ⟨a, b, ht, ha, hb, _, _, ⟨_, h1⟩ | ⟨_, _, h1⟩ | ⟨hab, hz, h1⟩⟩
  · rw [h] at h1; simp at h1
  · rw [h] at h1; simp at h1
  · rw [h] at h1; simp at h1
  · rw [h] at h1; simp at h1
  · rw [h] at h1
    simp only [Prod.mk.injEq, and_true] at h1
    subst h1
    exact ⟨put_ok hok ht (offL_bnd hok ha) (offL_bnd hok hb), hz⟩
theorem step_err {s : ByteArray} {e : EdP} (h : (step s e).2 ≠ 0) : (step s e).1 = ⟨#[]⟩ := by
  rcases step_or s e with ⟨_, h1⟩ | ⟨_, _, h1⟩ | ⟨a, b, ht, ha, hb, _, _, ⟨_, h1⟩ | ⟨_, _, h1⟩ | ⟨hab, hz, h1⟩⟩ <;> rw [h1] at h ⊢
  exact absurd rfl h
theorem steps_on {s : ByteArray} {e : EdP} {r : List EdP} (h : (step s e).2 = 0) : steps s (e :: r) = steps (step s e).1 r := by simp only [steps]; rw [if_pos h]
theorem steps_stop {s : ByteArray} {e : EdP} {r : List EdP} (h : (step s e).2 ≠ 0) : steps s (e :: r) = (⟨#[]⟩, (step s e).2) := by simp only [steps]; rw [if_neg h]
theorem steps_app : ∀ (l1 l2 : List EdP) (s : ByteArray), steps s (l1 ++ l2) = if (steps s l1).2 = 0 then steps (steps s l1).1 l2 else steps s l1
  | [], l2, s => by simp [steps]
  | e :: r, l2, s => by
    rw [List.cons_append]
    by_cases h : (step s e).2 = 0
    · rw [steps_on h, steps_on h]; exact steps_app r l2 _
    · rw [steps_stop h, steps_stop h, if_neg h]
theorem steps_ok : ∀ (l : List EdP) (s r : ByteArray), okB s = true → steps s l = (r, 0) → okB r = true ∧ (r.size ≤ 16384 ∨ r = s)
  | [], s, r, hok, h => by
    simp only [steps, Prod.mk.injEq, and_true] at h
    subst h
    exact ⟨hok, .inr rfl⟩
  | e :: t, s, r, hok, h => by
    simp only [steps] at h
    by_cases h1 : (step s e).2 = 0
    · rw [if_pos h1] at h
      obtain ⟨k1, k2⟩ := step_ok hok (r := (step s e).1) (by rw [← h1])
      obtain ⟨k3, k4⟩ := steps_ok t _ r k1 h
      refine ⟨k3, ?_⟩
      rcases k4 with k4 | k4
      · exact .inl k4
      · rw [k4]; exact .inl k2
    · rw [if_neg h1] at h
      simp only [Prod.mk.injEq] at h
      exact absurd h.2 h1
theorem steps_err : ∀ (l : List EdP) (s : ByteArray), (steps s l).2 ≠ 0 → (steps s l).1 = ⟨#[]⟩
  | [], s, h => by simp [steps] at h
  | e :: t, s, h => by
    simp only [steps] at h ⊢
    by_cases h1 : (step s e).2 = 0
    · rw [if_pos h1] at h ⊢; exact steps_err t _ h
    · rw [if_neg h1]
/-- First some, then the others. -/
theorem applyL_parts (s : ByteArray) (l1 l2 : List EdP) : ((applyL s l1).2 = 0 → applyL s (l1 ++ l2) = applyL (applyL s l1).1 l2) ∧ ((applyL s l1).2 ≠ 0 → applyL s (l1 ++ l2) = applyL s l1) := by
  unfold applyL
  by_cases hok : okB s = true
  · rw [if_pos hok, if_pos hok, steps_app]
    constructor
    · intro h
      rw [if_pos h, if_pos (steps_ok l1 s _ hok (by rw [← h])).1]
    · intro h; rw [if_neg h]
  · rw [if_neg hok, if_neg hok]; simp
/-- What Between tells makes the second text of the first, if it is not too long. -/
theorem between_back {a b : ByteArray} {n k : Nat} (h : Betw a b n k) (ha : okB a = true) (hb : okB b = true) (hz : b.size ≤ 16384) {fl fu tl tu : Int}
    (h1 : placeL a (n : Int) = (fl, fu, 0)) (h2 : placeL a ((a.size - k : Nat) : Int) = (tl, tu, 0)) : applyL a [⟨fl, fu, tl, tu, b.extract n (b.size - k)⟩] = (b, 0) := by
  obtain ⟨_, _, _, _, ht⟩ := h.bnds ha hb
  have e1 := place_back a _ _ _ h1
  have e2 := place_back a _ _ _ h2
  obtain ⟨l1, l2⟩ := h.le
  have hs : step a ⟨fl, fu, tl, tu, b.extract n (b.size - k)⟩ = (b, 0) := by
    unfold step
    simp only [e1, e2, ht, Bool.true_eq_false, if_false, ne_eq, not_true_eq_false, or_self, Int.toNat_natCast, h.back]
    rw [if_neg (by omega), if_neg (by omega)]
  unfold applyL
  rw [if_pos ha]
  simp only [steps, hs, if_true]
/-- Where a byte stands behind an edit. -/
def moveL (s : ByteArray) (e : EdP) (at' : Int) : Int × Int :=
  if (applyL s [e]).2 ≠ 0 then (0, (applyL s [e]).2)
  else if at' < 0 ∨ (s.size : Int) < at' then (0, 51)
  else if at' ≤ (offL s e.fl e.fu).1 then (at', 0)
  else if (offL s e.tl e.tu).1 ≤ at' then (((applyL s [e]).1.size : Int) - ((s.size : Int) - at'), 0)
  else ((offL s e.fl e.fu).1 + e.t.size, 0)

/-! ### Searched from 0 on -/
/-- Both have so many first bytes. -/
def Com (a b : ByteArray) (m : Nat) : Prop := m ≤ a.size ∧ m ≤ b.size ∧ hd a m = hd b m
/-- Both have so many last bytes. -/
def Cot (a b : ByteArray) (m : Nat) : Prop := m ≤ a.size ∧ m ≤ b.size ∧ tl a (a.size - m) = tl b (b.size - m)
theorem hd_hd (s : ByteArray) (k m : Nat) (h : k ≤ m) : hd (hd s m) k = hd s k := by
  apply ByteArray.ext
  simp only [ByteArray.data_extract, Array.extract_extract]
  congr 1
  omega
theorem Com.less {a b : ByteArray} {k m : Nat} (h : Com a b m) (hk : k ≤ m) : Com a b k := by
  obtain ⟨h1, h2, h3⟩ := h
  exact ⟨by omega, by omega, by rw [← hd_hd a k m hk, h3, hd_hd b k m hk]⟩
theorem Cot.less {a b : ByteArray} {k m : Nat} (h : Cot a b m) (hk : k ≤ m) : Cot a b k := by
  obtain ⟨h1, h2, h3⟩ := h
  have e1 := tl_tl (s := a) (n := a.size - m) (k := k) (by omega) (by rw [tl_size (by omega)]; omega)
  have e2 := tl_tl (s := b) (n := b.size - m) (k := k) (by omega) (by rw [tl_size (by omega)]; omega)
  exact ⟨by omega, by omega, by rw [← e1, ← e2, h3]⟩
/-- The longest right beginning among those of less than k bytes, all of which both have. -/
structure BegTo (a b : ByteArray) (k n : Nat) : Prop where
  com : ∀ m, m < k → Com a b m
  has : n = 0 ∨ n < k ∧ okB (hd a n) = true
  most : ∀ m, m < k → okB (hd a m) = true → m ≤ n
theorem begTo_zero (a b : ByteArray) : BegTo a b 0 0 := ⟨fun m h => by omega, .inl rfl, fun m h => by omega⟩
theorem begTo_ok {a b : ByteArray} {k n : Nat} (h : BegTo a b k n) (hc : Com a b k) (hok : okB (hd a k) = true) : BegTo a b (k + 1) k :=
  ⟨fun m hm => by rcases Nat.lt_or_ge m k with h1 | h1; · exact h.com m h1
                  · obtain rfl : m = k := by omega
                    exact hc, .inr ⟨by omega, hok⟩, fun m hm _ => by omega⟩
theorem begTo_no {a b : ByteArray} {k n : Nat} (h : BegTo a b k n) (hc : Com a b k) (hok : okB (hd a k) = false) : BegTo a b (k + 1) n :=
  ⟨fun m hm => by rcases Nat.lt_or_ge m k with h1 | h1; · exact h.com m h1
                  · obtain rfl : m = k := by omega
                    exact hc, h.has.imp id (fun ⟨h1, h2⟩ => ⟨by omega, h2⟩), fun m hm hk => by
    rcases Nat.lt_or_ge m k with h1 | h1
    · exact h.most m h1 hk
    · obtain rfl : m = k := by omega
      rw [hok] at hk; cases hk⟩
theorem begTo_end {a b : ByteArray} {k n : Nat} (h : BegTo a b k n) (hc : ¬ Com a b k) : Beg a b n := by
  have hn : Com a b n ∧ okB (hd a n) = true := by
    rcases h.has with rfl | ⟨h1, h2⟩
    · exact ⟨⟨Nat.zero_le _, Nat.zero_le _, by rw [hd_zero, hd_zero]⟩, by rw [hd_zero]; exact okB_nil⟩
    · exact ⟨h.com n h1, h2⟩
  refine ⟨hn.1.1, hn.1.2.1, hn.1.2.2, hn.2, fun m h1 h2 h3 h4 => ?_⟩
  rcases Nat.lt_or_ge m k with h5 | h5
  · exact h.most m h5 h4
  · exact absurd (Com.less ⟨h1, h2, h3⟩ h5) hc
structure FinTo (a b : ByteArray) (k n : Nat) : Prop where
  com : ∀ m, m < k → Cot a b m
  has : n = 0 ∨ n < k ∧ okB (tl a (a.size - n)) = true
  most : ∀ m, m < k → okB (tl a (a.size - m)) = true → m ≤ n
theorem finTo_zero (a b : ByteArray) : FinTo a b 0 0 := ⟨fun m h => by omega, .inl rfl, fun m h => by omega⟩
theorem finTo_ok {a b : ByteArray} {k n : Nat} (h : FinTo a b k n) (hc : Cot a b k) (hok : okB (tl a (a.size - k)) = true) : FinTo a b (k + 1) k :=
  ⟨fun m hm => by rcases Nat.lt_or_ge m k with h1 | h1; · exact h.com m h1
                  · obtain rfl : m = k := by omega
                    exact hc, .inr ⟨by omega, hok⟩, fun m hm _ => by omega⟩
theorem finTo_no {a b : ByteArray} {k n : Nat} (h : FinTo a b k n) (hc : Cot a b k) (hok : okB (tl a (a.size - k)) = false) : FinTo a b (k + 1) n :=
  ⟨fun m hm => by rcases Nat.lt_or_ge m k with h1 | h1; · exact h.com m h1
                  · obtain rfl : m = k := by omega
                    exact hc, h.has.imp id (fun ⟨h1, h2⟩ => ⟨by omega, h2⟩), fun m hm hk => by
    rcases Nat.lt_or_ge m k with h1 | h1
    · exact h.most m h1 hk
    · obtain rfl : m = k := by omega
      rw [hok] at hk; cases hk⟩
theorem tl_all (s : ByteArray) : tl s s.size = ⟨#[]⟩ := size_nil (by rw [tl_size (Nat.le_refl _)]; omega)
theorem finTo_end {a b : ByteArray} {k n : Nat} (h : FinTo a b k n) (hc : ¬ Cot a b k) : Fin a b n := by
  have hn : Cot a b n ∧ okB (tl a (a.size - n)) = true := by
    rcases h.has with rfl | ⟨h1, h2⟩
    · exact ⟨⟨Nat.zero_le _, Nat.zero_le _, by rw [Nat.sub_zero, Nat.sub_zero, tl_all, tl_all]⟩, by rw [Nat.sub_zero, tl_all]; exact okB_nil⟩
    · exact ⟨h.com n h1, h2⟩
  refine ⟨hn.1.1, hn.1.2.1, hn.1.2.2, hn.2, fun m h1 h2 h3 h4 => ?_⟩
  rcases Nat.lt_or_ge m k with h5 | h5
  · exact h.most m h5 h4
  · exact absurd (Cot.less ⟨h1, h2, h3⟩ h5) hc
end Go.Proofs.YtccmicmlkgkheaaDoor.E

/- Plain facts about a program's pieces: what they are, how they hang on the bytes ahead of a byte 10, and behind it. It imports nothing of the program. -/
import Derived.Test.YtapjomdplibanaaDoorQPlain
namespace Go.Proofs.YtapjomdplibanaaDoor.Q
open Go.Lib Go.Proofs.YtapjomdplibanaaDoor.U Go.Proofs.YtapjomdplibanaaDoor.S

structure PcP where
  f : Nat
  e : Nat
  d : Bool
  j : Bool
def cuts (s : By) (a n : Nat) : List Nat := (List.range' a n).filter (beg s)
/-- Has a text words? -/
def hw (x : By) : Bool := !(scanB (okB ⟨x.toArray⟩) x).isEmpty
def made (s : By) (f e : Nat) : PcP := ⟨f, e, beg s f, !beg s f && hw ((s.drop f).take (e - f))⟩
def heads (s : By) : Nat → List Nat → List PcP
  | _, [] => []
  | f, c :: cs => made s f c :: heads s c cs
def lastD : Nat → List Nat → Nat
  | f, [] => f
  | _, c :: cs => lastD c cs
def chain (s : By) (e f : Nat) (cs : List Nat) : List PcP := heads s f cs ++ [made s (lastD f cs) e]
def pieces (s : By) : List PcP := chain s s.length 0 (cuts s 1 (s.length - 1))
def shP (k : Nat) (p : PcP) : PcP := ⟨k + p.f, k + p.e, p.d, p.j⟩

theorem heads_app (s : By) : ∀ (A B : List Nat) (f : Nat), heads s f (A ++ B) = heads s f A ++ heads s (lastD f A) B
  | [], _, _ => rfl
  | c :: A, B, f => by simp only [List.cons_append, heads, lastD, heads_app s A B c]
theorem lastD_app : ∀ (A B : List Nat) (f : Nat), lastD f (A ++ B) = lastD (lastD f A) B
  | [], _, _ => rfl
  | c :: A, B, f => by simp only [List.cons_append, lastD, lastD_app A B c]
theorem heads_len (s : By) : ∀ (A : List Nat) (f : Nat), (heads s f A).length = A.length
  | [], _ => rfl
  | c :: A, f => by simp only [heads, List.length_cons, heads_len s A c]
theorem chain_len (s : By) (e f : Nat) (cs : List Nat) : (chain s e f cs).length = cs.length + 1 := by unfold chain; simp [heads_len]
theorem lastD_mem : ∀ (A : List Nat) (f : Nat), lastD f A = f ∨ lastD f A ∈ A
  | [], _ => .inl rfl
  | c :: A, f => by
    rcases lastD_mem A c with h | h
    · exact .inr (by simp only [lastD]; rw [h]; simp)
    · exact .inr (by simp only [lastD]; exact List.mem_cons_of_mem _ h)
theorem cuts_succ (s : By) (a n : Nat) : cuts s a (n + 1) = if beg s a = true then a :: cuts s (a + 1) n else cuts s (a + 1) n := by
  unfold cuts
  rw [List.range'_succ, List.filter_cons]
theorem cuts_app (s : By) (a m n : Nat) : cuts s a (m + n) = cuts s a m ++ cuts s (a + m) n := by
  unfold cuts
  rw [← List.filter_append, List.range'_append_1]
theorem cuts_mem {s : By} {a n c : Nat} (h : c ∈ cuts s a n) : a ≤ c ∧ c < a + n ∧ beg s c = true := by
  unfold cuts at h
  rw [List.mem_filter, List.mem_range'_1] at h
  exact ⟨h.1.1, h.1.2, h.2⟩
theorem cuts_up (s : By) (a n : Nat) : (cuts s a n).Pairwise (· < ·) := by
  unfold cuts
  exact (List.pairwise_lt_range' (s := a) (n := n)).filter _
theorem declW_pos {v : By} (h : declW v = true) : 1 ≤ v.length := by
  cases v with
  | nil => cases h
  | cons c r => simp
theorem beg_zero (v : By) : beg v 0 = declW v := by unfold beg; simp

/-! ### Ahead of a byte 10, and behind it -/
theorem beg_left (u v : By) {i : Nat} (h : i ≤ u.length) : beg (u ++ 10 :: v) i = beg u i := by
  unfold beg
  rw [List.drop_append_of_le_length h, declW_stop]
  by_cases h0 : i = 0
  · simp [h0]
  · rw [List.getElem?_append_left (by omega)]
theorem beg_right (u v : By) (i : Nat) : beg (u ++ 10 :: v) (u.length + 1 + i) = beg v i := by
  have hd : (u ++ 10 :: v).drop (u.length + 1 + i) = v.drop i := by
    rw [show u.length + 1 + i = u.length + (1 + i) by omega, ← List.drop_drop, List.drop_left, Nat.add_comm 1 i, List.drop_succ_cons]
  unfold beg
  rw [hd, List.getElem?_append_right (by omega), show u.length + 1 + i - 1 - u.length = i by omega]
  cases i with
  | zero => simp
  | succ k => simp
theorem cuts_left (u v : By) : ∀ (n a : Nat), a + n ≤ u.length + 1 → cuts (u ++ 10 :: v) a n = cuts u a n
  | 0, _, _ => rfl
  | n + 1, a, h => by rw [cuts_succ, cuts_succ, beg_left u v (by omega), cuts_left u v n (a + 1) (by omega)]
theorem cuts_right (u v : By) : ∀ (n a : Nat), cuts (u ++ 10 :: v) (u.length + 1 + a) n = (cuts v a n).map (u.length + 1 + ·)
  | 0, _ => rfl
  | n + 1, a => by
    rw [cuts_succ, cuts_succ, beg_right, Nat.add_assoc _ a 1, cuts_right u v n (a + 1)]
    split <;> simp
theorem cut_bytes (u v w : By) {f e : Nat} (hf : f ≤ u.length) (he : e ≤ u.length + 1) : ((u ++ 10 :: v).drop f).take (e - f) = ((u ++ 10 :: w).drop f).take (e - f) := by
  have h : ∀ z : By, ((u ++ 10 :: z).drop f).take (e - f) = ((u ++ [10]).drop f).take (e - f) := fun z => by
    rw [show u ++ 10 :: z = (u ++ [10]) ++ z by simp, List.drop_append_of_le_length (by simp; omega), List.take_append_of_le_length (by simp; omega)]
  rw [h v, h w]
theorem made_left (u v w : By) {f e : Nat} (hf : f ≤ u.length) (he : e ≤ u.length + 1) : made (u ++ 10 :: v) f e = made (u ++ 10 :: w) f e := by
  unfold made
  rw [beg_left u v hf, beg_left u w hf, cut_bytes u v w hf he]
theorem made_right (u v : By) (f e : Nat) : made (u ++ 10 :: v) (u.length + 1 + f) (u.length + 1 + e) = shP (u.length + 1) (made v f e) := by
  have hd : (u ++ 10 :: v).drop (u.length + 1 + f) = v.drop f := by
    rw [show u.length + 1 + f = u.length + (1 + f) by omega, ← List.drop_drop, List.drop_left, Nat.add_comm 1 f, List.drop_succ_cons]
  unfold made shP
  rw [beg_right, hd, show u.length + 1 + e - (u.length + 1 + f) = e - f by omega]
theorem heads_left (u v w : By) : ∀ (cs : List Nat) (f : Nat), f ≤ u.length → (∀ c ∈ cs, c ≤ u.length) → heads (u ++ 10 :: v) f cs = heads (u ++ 10 :: w) f cs
  | [], _, _, _ => rfl
  | c :: cs, f, hf, h => by
    have hc := h c (by simp)
    simp only [heads]
    rw [made_left u v w hf (by omega), heads_left u v w cs c hc (fun x hx => h x (List.mem_cons_of_mem _ hx))]
theorem heads_right (u v : By) : ∀ (cs : List Nat) (f : Nat), heads (u ++ 10 :: v) (u.length + 1 + f) (cs.map (u.length + 1 + ·)) = (heads v f cs).map (shP (u.length + 1))
  | [], _ => rfl
  | c :: cs, f => by simp only [List.map_cons, heads, made_right, heads_right u v cs c]
theorem lastD_map (k : Nat) : ∀ (cs : List Nat) (f : Nat), lastD (k + f) (cs.map (k + ·)) = k + lastD f cs
  | [], _ => rfl
  | c :: cs, f => by simp only [List.map_cons, lastD, lastD_map k cs c]
/-- The pieces ahead of the last one that begins ahead of a byte 10 hang on what stands ahead of it alone. -/
theorem pieces_ahead (u v : By) : ∃ r, pieces (u ++ 10 :: v) = heads (u ++ 10 :: v) 0 (cuts u 1 u.length) ++ r ∧ 1 ≤ r.length := by
  have hl : (u ++ 10 :: v).length - 1 = u.length + v.length := by simp
  unfold pieces chain
  rw [hl, cuts_app, cuts_left u v _ _ (by omega), heads_app]
  exact ⟨_, List.append_assoc _ _ _, by simp⟩
/-- A declaration that begins behind a byte 10 parts the pieces. -/
theorem pieces_parts (u v : By) (hv : declW v = true) : pieces (u ++ 10 :: v) = heads (u ++ 10 :: v) 0 (cuts u 1 u.length) ++ made (u ++ 10 :: v) (lastD 0 (cuts u 1 u.length)) (u.length + 1) :: (pieces v).map (shP (u.length + 1)) := by
  have h1 := declW_pos hv
  obtain ⟨n, hn⟩ : ∃ n, v.length = n + 1 := ⟨v.length - 1, by omega⟩
  have hl : (u ++ 10 :: v).length - 1 = u.length + v.length := by simp
  have hz : (u ++ 10 :: v).length = u.length + 1 + v.length := by simp; omega
  have hc : cuts (u ++ 10 :: v) (1 + u.length) v.length = (u.length + 1) :: (cuts v 1 n).map (u.length + 1 + ·) := by
    have := cuts_right u v v.length 0
    rw [Nat.add_zero] at this
    rw [Nat.add_comm 1, this, hn, cuts_succ, beg_zero, if_pos hv]
    simp
  have e0 := heads_right u v (cuts v 1 n) 0
  have e1 := lastD_map (u.length + 1) (cuts v 1 n) 0
  rw [Nat.add_zero] at e0 e1
  unfold pieces chain
  rw [hl, cuts_app, cuts_left u v _ _ (by omega), hc, heads_app, lastD_app]
  simp only [heads, lastD]
  rw [e0, e1, hz, made_right, show v.length - 1 = n by omega]
  simp
theorem parts_len (u v : By) (hv : declW v = true) : (pieces (u ++ 10 :: v)).length = (cuts u 1 u.length).length + 1 + (pieces v).length := by
  rw [pieces_parts u v hv]; simp [heads_len]; omega
/-- Where a piece begins that is not the first one. -/
theorem cut_at (s : By) {i : Nat} (hi : i < (cuts s 1 (s.length - 1)).length) : ∃ u v, s = u ++ 10 :: v ∧ u.length + 1 = (cuts s 1 (s.length - 1))[i] ∧ declW v = true ∧ (cuts u 1 u.length).length = i := by
  obtain ⟨K, hK⟩ : ∃ K, (cuts s 1 (s.length - 1))[i] = K := ⟨_, rfl⟩
  have hm : K ∈ cuts s 1 (s.length - 1) := by rw [← hK]; exact List.getElem_mem hi
  obtain ⟨h1, h2, h3⟩ := cuts_mem hm
  have h10 : s[K - 1]? = some 10 := by
    unfold beg at h3
    simp only [Bool.and_eq_true, Bool.or_eq_true, decide_eq_true_eq] at h3
    rcases h3.1 with h | h
    · omega
    · exact h
  have hlt : K - 1 < s.length := by omega
  have hs : s = s.take (K - 1) ++ 10 :: s.drop K := by
    have hd := List.drop_eq_getElem_cons hlt
    rw [List.getElem?_eq_getElem hlt] at h10
    rw [Option.some.inj h10, show K - 1 + 1 = K by omega] at hd
    rw [← hd, List.take_append_drop]
  have hul : (s.take (K - 1)).length = K - 1 := by rw [List.length_take]; omega
  have hdv : declW (s.drop K) = true := by
    unfold beg at h3
    simp only [Bool.and_eq_true] at h3
    exact h3.2
  refine ⟨s.take (K - 1), s.drop K, hs, by omega, hdv, ?_⟩
  have hA : cuts (s.take (K - 1)) 1 (s.take (K - 1)).length = cuts s 1 (K - 1) := by
    have := cuts_left (s.take (K - 1)) (s.drop K) (s.take (K - 1)).length 1 (by omega)
    rw [← hs, hul] at this
    rw [hul, this]
  rw [hA]
  have hL : cuts s 1 (s.length - 1) = cuts s 1 (K - 1) ++ K :: cuts s (K + 1) (s.length - 1 - K) := by
    have h := cuts_app s 1 (K - 1) (s.length - 1 - K + 1)
    rw [show K - 1 + (s.length - 1 - K + 1) = s.length - 1 by omega, show 1 + (K - 1) = K by omega, cuts_succ, if_pos h3] at h
    exact h
  have hj : (cuts s 1 (K - 1)).length < (cuts s 1 (s.length - 1)).length := by rw [hL]; simp
  have hKj : (cuts s 1 (s.length - 1))[(cuts s 1 (K - 1)).length] = K := by
    have : (cuts s 1 (s.length - 1))[(cuts s 1 (K - 1)).length]? = some K := by rw [hL]; simp
    rw [List.getElem?_eq_getElem hj] at this
    exact Option.some.inj this
  have hp := List.pairwise_iff_getElem.1 (cuts_up s 1 (s.length - 1))
  rcases Nat.lt_trichotomy (cuts s 1 (K - 1)).length i with h | h | h
  · have := hp _ _ hj hi h; omega
  · exact h
  · have := hp _ _ hi hj h; omega

/-! ### One behind the other -/
def Fol : Nat → List PcP → Prop
  | _, [] => True
  | a, p :: r => p.f = a ∧ a ≤ p.e ∧ Fol p.e r
def endE : Nat → List PcP → Nat
  | a, [] => a
  | _, p :: r => endE p.e r
theorem fol_end : ∀ {l : List PcP} {a : Nat}, Fol a l → a ≤ endE a l
  | [], _, _ => Nat.le_refl _
  | _ :: r, _, h => Nat.le_trans h.2.1 (fol_end (l := r) h.2.2)
theorem fol_mem : ∀ {l : List PcP} {a : Nat}, Fol a l → ∀ p ∈ l, a ≤ p.f ∧ p.f ≤ p.e ∧ p.e ≤ endE a l
  | [], _, _, p, hp => by cases hp
  | q :: r, a, h, p, hp => by
    rcases List.mem_cons.1 hp with rfl | hp
    · exact ⟨by rw [h.1]; exact Nat.le_refl _, by rw [h.1]; exact h.2.1, fol_end (l := r) h.2.2⟩
    · have h1 := fol_mem (l := r) h.2.2 p hp
      have := h.2.1
      exact ⟨by omega, h1.2⟩
theorem fol_lt : ∀ {l : List PcP} {a : Nat}, Fol a l → ∀ i j (hj : j < l.length) (hij : i < j), (l[i]'(by omega)).e ≤ l[j].f
  | [], _, _, _, _, hj, _ => by simp at hj
  | _ :: r, _, h, 0, j + 1, hj, _ => (fol_mem (l := r) h.2.2 (r[j]'(by simpa using hj)) (List.getElem_mem _)).1
  | _ :: r, _, h, i + 1, j + 1, hj, hij => by
    simp only [List.getElem_cons_succ]
    exact fol_lt (l := r) h.2.2 i j (by simpa using hj) (by omega)
theorem fol_last : ∀ {l : List PcP} (a : Nat), l ≠ [] → l.getLast?.map (fun p => (p.e : Int)) = some ((endE a l : Nat) : Int)
  | [], _, h => absurd rfl h
  | [p], a, _ => rfl
  | p :: q :: r, a, _ => by
    rw [List.getLast?_cons_cons]
    exact fol_last (l := q :: r) p.e (by simp)
theorem fol_find : ∀ {l : List PcP} {a : Nat} {x : Int}, Fol a l → (a : Int) ≤ x → x < ((endE a l : Nat) : Int) → ∃ p ∈ l, (p.f : Int) ≤ x ∧ x < (p.e : Int)
  | [], a, x, _, h1, h2 => by simp only [endE] at h2; omega
  | p :: r, a, x, h, h1, h2 => by
    by_cases hx : x < (p.e : Int)
    · exact ⟨p, by simp, by rw [h.1]; exact h1, hx⟩
    · obtain ⟨q, hq, h3⟩ := fol_find (l := r) h.2.2 (by omega) h2
      exact ⟨q, List.mem_cons_of_mem _ hq, h3⟩
def inP (x : Int) (p : PcP) : Bool := decide ((p.f : Int) ≤ x) && decide (x < (p.e : Int))
def ofL (l : List PcP) (x : Int) : Int := match l.findIdx? (inP x) with
  | some i => i
  | none => if l.getLast?.map (fun p => (p.e : Int)) = some x then (l.length : Int) - 1 else -1
theorem ofL_hit {l : List PcP} {x : Int} {i : Nat} (hi : i < l.length) (h : inP x l[i] = true) (ha : ∀ j (hj : j < l.length), j < i → inP x l[j] = false) : ofL l x = i := by
  unfold ofL
  rw [List.findIdx?_eq_some_iff_getElem.2 ⟨hi, h, fun j hj => by simp [ha j (by omega) hj]⟩]
theorem ofL_miss {l : List PcP} {x : Int} (ha : ∀ j (hj : j < l.length), inP x l[j] = false) : ofL l x = if l.getLast?.map (fun p => (p.e : Int)) = some x then (l.length : Int) - 1 else -1 := by
  unfold ofL
  rw [List.findIdx?_eq_none_iff.2 (fun p hp => by
    obtain ⟨j, hj, rfl⟩ := List.getElem_of_mem hp
    exact ha j hj)]
theorem of_in {l : List PcP} {x : Int} (h : Fol 0 l) (hl : l ≠ []) (h0 : 0 ≤ x) (h1 : x ≤ ((endE 0 l : Nat) : Int)) :
    ∃ (j : Nat) (hj : j < l.length), ofL l x = j ∧ (l[j].f : Int) ≤ x ∧ (x < (l[j].e : Int) ∨ (j + 1 = l.length ∧ x = (l[j].e : Int))) := by
  by_cases hx : x < ((endE 0 l : Nat) : Int)
  · obtain ⟨p, hp, h2, h3⟩ := fol_find h (by simpa using h0) hx
    cases hf : l.findIdx? (inP x) with
    | none =>
      have := (List.findIdx?_eq_none_iff.1 hf) p hp
      simp [inP, h2, h3] at this
    | some j =>
      obtain ⟨hj, h4, _⟩ := List.findIdx?_eq_some_iff_getElem.1 hf
      simp only [inP, Bool.and_eq_true, decide_eq_true_eq] at h4
      exact ⟨j, hj, by unfold ofL; rw [hf], h4.1, .inl h4.2⟩
  · have hx' : x = ((endE 0 l : Nat) : Int) := by omega
    have hn : 0 < l.length := List.length_pos_iff.2 hl
    have hm : ∀ j (hj : j < l.length), inP x l[j] = false := fun j hj => by
      have := (fol_mem h l[j] (List.getElem_mem hj)).2.2
      simp only [inP, Bool.and_eq_false_iff, decide_eq_false_iff_not]
      exact .inr (by omega)
    have hlast := fol_last 0 hl
    have hm2 := hlast
    rw [List.getLast?_eq_getElem?, List.getElem?_eq_getElem (by omega)] at hm2
    simp only [Option.map_some, Option.some.injEq] at hm2
    have h5 := fol_mem h l[l.length - 1] (List.getElem_mem (by omega))
    refine ⟨l.length - 1, by omega, ?_, by omega, .inr ⟨by omega, by omega⟩⟩
    rw [ofL_miss hm, hlast, hx', if_pos rfl]
    omega
theorem of_out {l : List PcP} {x : Int} (h : Fol 0 l) (h1 : ((endE 0 l : Nat) : Int) < x ∨ l = []) : ofL l x = -1 := by
  rcases h1 with h1 | rfl
  · have hm : ∀ j (hj : j < l.length), inP x l[j] = false := fun j hj => by
      have := (fol_mem h l[j] (List.getElem_mem hj)).2.2
      simp only [inP, Bool.and_eq_false_iff, decide_eq_false_iff_not]
      exact .inr (by omega)
    rw [ofL_miss hm]
    by_cases hl : l = []
    · subst hl; rfl
    · rw [fol_last 0 hl, if_neg (by intro e; have := Option.some.inj e; omega)]
  · rfl
/-- What the program answers, and what the document does. -/
def touchL (l : List PcP) (a b : Int) : Int × Int := if a < 0 ∨ b < a ∨ ofL l a < 0 ∨ ofL l b < 0 then (0, 0) else (max (ofL l a - 1) 0, ofL l b + 1)
def touchR (l : List PcP) (a b : Int) : Int × Int := if l = [] ∨ a < 0 ∨ b < a ∨ (∃ e, l.getLast?.map (fun p => (p.e : Int)) = some e ∧ e < b) then (0, 0) else (max (ofL l a - 1) 0, ofL l b + 1)
theorem touch_same {l : List PcP} (h : Fol 0 l) (a b : Int) : touchL l a b = touchR l a b := by
  unfold touchL touchR
  by_cases hl : l = []
  · rw [if_pos (by rw [of_out (x := a) h (.inr hl)]; omega), if_pos (.inl hl)]
  · rw [fol_last 0 hl]
    by_cases h1 : a < 0 ∨ b < a
    · rw [if_pos (by rcases h1 with h1 | h1; exact .inl h1; exact .inr (.inl h1)), if_pos (by rcases h1 with h1 | h1; exact .inr (.inl h1); exact .inr (.inr (.inl h1)))]
    · by_cases h2 : ((endE 0 l : Nat) : Int) < b
      · rw [if_pos (by rw [of_out (x := b) h (.inl h2)]; omega), if_pos (.inr (.inr (.inr ⟨_, rfl, h2⟩)))]
      · obtain ⟨i, hi, e1, _⟩ := of_in (x := a) h hl (by omega) (by omega)
        obtain ⟨j, hj, e2, _⟩ := of_in (x := b) h hl (by omega) (by omega)
        rw [if_neg (by rw [e1, e2]; omega), if_neg]
        rintro (h3 | h3 | h3 | ⟨e, h3, h4⟩)
        · exact hl h3
        · omega
        · omega
        · have := Option.some.inj h3; omega

/-! ### Pieces follow one another -/
theorem fol_heads (s : By) (e : Nat) : ∀ (cs : List Nat) (f : Nat), (f :: cs).Pairwise (· < ·) → (∀ c ∈ f :: cs, c ≤ e) → Fol f (chain s e f cs) ∧ endE f (chain s e f cs) = e
  | [], f, _, h => ⟨⟨rfl, h f (by simp), trivial⟩, rfl⟩
  | c :: cs, f, hp, h => by
    have hp2 := List.pairwise_cons.1 hp
    obtain ⟨h1, h2⟩ := fol_heads s e cs c hp2.2 (fun x hx => h x (List.mem_cons_of_mem _ hx))
    exact ⟨⟨rfl, Nat.le_of_lt (hp2.1 c (by simp)), h1⟩, h2⟩
theorem fol_pieces (s : By) : Fol 0 (pieces s) ∧ endE 0 (pieces s) = s.length := by
  refine fol_heads s s.length _ 0 ?_ ?_
  · refine List.pairwise_cons.2 ⟨fun c hc => ?_, cuts_up _ _ _⟩
    have := (cuts_mem hc).1
    omega
  · intro c hc
    rcases List.mem_cons.1 hc with rfl | hc
    · exact Nat.zero_le _
    · have := (cuts_mem hc).2.1; omega
theorem pieces_ne (s : By) : pieces s ≠ [] := by unfold pieces chain; simp
theorem heads_get (s : By) (e : Nat) : ∀ (cs : List Nat) (f i : Nat) (h : i < cs.length), ((chain s e f cs)[i + 1]?).map (·.f) = some cs[i]
  | [], _, _, h => by simp at h
  | c :: cs, f, 0, _ => by
    cases cs with
    | nil => simp [chain, heads, lastD, made]
    | cons d ds => simp [chain, heads, made]
  | c :: cs, f, i + 1, h => by
    have := heads_get s e cs c i (by simpa using h)
    have e0 : chain s e f (c :: cs) = made s f c :: chain s e c cs := rfl
    rw [e0, List.getElem?_cons_succ, this]
    simp
end Go.Proofs.YtapjomdplibanaaDoor.Q

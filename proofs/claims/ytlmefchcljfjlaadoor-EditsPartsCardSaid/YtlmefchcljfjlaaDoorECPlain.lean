/- Plain facts under common: how far two texts are one from the beginning, and from the end, counted byte by byte; what Cut leaves of a beginning. -/
import Derived.Test.YtlmefchcljfjlaaDoorEPlain
import Derived.Shelf.Unicode.DecodeSlow
namespace Go.Proofs.YtlmefchcljfjlaaDoor.E
open Go.Lib Go.Proofs.YtlmefchcljfjlaaDoor.U Go.Proofs.YtlmefchcljfjlaaDoor.L

/-- Counted on while two answers are one. -/
def cntTo (f g : Nat → Nat) : Nat → Nat → Nat
  | 0, i => i
  | k + 1, i => if f i = g i then cntTo f g k (i + 1) else i
theorem cntTo_on {f g : Nat → Nat} {m i : Nat} (hi : i < m) (h : f i = g i) : cntTo f g (m - i) i = cntTo f g (m - (i + 1)) (i + 1) := by
  rw [show m - i = (m - (i + 1)) + 1 by omega]; simp only [cntTo]; rw [if_pos h]
theorem cntTo_stop {f g : Nat → Nat} {m i : Nat} (hi : i < m) (h : ¬ f i = g i) : cntTo f g (m - i) i = i := by
  rw [show m - i = (m - (i + 1)) + 1 by omega]; simp only [cntTo]; rw [if_neg h]
theorem cntTo_done {f g : Nat → Nat} {m i : Nat} (hi : m ≤ i) : cntTo f g (m - i) i = i := by
  rw [show m - i = 0 by omega]; rfl
theorem cntTo_spec (f g : Nat → Nat) : ∀ (k i : Nat), i ≤ cntTo f g k i ∧ cntTo f g k i ≤ i + k ∧ (∀ j, i ≤ j → j < cntTo f g k i → f j = g j) ∧ (cntTo f g k i = i + k ∨ f (cntTo f g k i) ≠ g (cntTo f g k i))
  | 0, i => ⟨Nat.le_refl _, Nat.le_refl _, fun j h1 h2 => by simp only [cntTo] at h2; omega, .inl rfl⟩
  | k + 1, i => by
    simp only [cntTo]
    by_cases h : f i = g i
    · rw [if_pos h]
      obtain ⟨h1, h2, h3, h4⟩ := cntTo_spec f g k (i + 1)
      refine ⟨by omega, by omega, fun j hj1 hj2 => ?_, ?_⟩
      · rcases Nat.eq_or_lt_of_le hj1 with h5 | h5
        · rw [← h5]; exact h
        · exact h3 j h5 hj2
      · rcases h4 with h4 | h4
        · exact .inl (by omega)
        · exact .inr h4
    · rw [if_neg h]
      exact ⟨Nat.le_refl _, by omega, fun j h1 h2 => by omega, .inr h⟩

/-- The byte at a place, from the beginning and from the end. -/
def fAt (s : ByteArray) (n : Nat) : Nat := (s.get! n).toNat
def bAt (s : ByteArray) (n : Nat) : Nat := (s.get! (s.size - 1 - n)).toNat
def fwdN (a b : ByteArray) (m : Nat) : Nat := cntTo (fAt a) (fAt b) m 0
def bwdN (a b : ByteArray) (m : Nat) : Nat := cntTo (bAt a) (bAt b) m 0
theorem fwdN_le (a b : ByteArray) (m : Nat) : fwdN a b m ≤ m := by have := (cntTo_spec (fAt a) (fAt b) m 0).2.1; unfold fwdN; omega
theorem bwdN_le (a b : ByteArray) (m : Nat) : bwdN a b m ≤ m := by have := (cntTo_spec (bAt a) (bAt b) m 0).2.1; unfold bwdN; omega

theorem get!_toNat {a b : ByteArray} {i j : Nat} (h : (a.get! i).toNat = (b.get! j).toNat) : a.get! i = b.get! j := UInt8.toNat_inj.1 h
theorem ext_get {a b : ByteArray} (hz : a.size = b.size) (h : ∀ i, i < a.size → a.get! i = b.get! i) : a = b := by
  apply ByteArray.ext
  apply Array.ext
  · exact hz
  · intro i h1 h2
    have h3 := h i h1
    rw [Utf8W.get!_of_lt a i h1, Utf8W.get!_of_lt b i h2] at h3
    exact h3
theorem get!_extract (s : ByteArray) (i j k : Nat) (hij : i ≤ j) (hj : j ≤ s.size) (hk : k < j - i) : (s.extract i j).get! k = s.get! (i + k) := by
  have hz := size_extract s i j hij hj
  rw [Utf8W.get!_of_lt _ k (by omega), Utf8W.get!_of_lt s (i + k) (by omega)]
  simp [ByteArray.getElem_eq_getElem_data]
theorem hd_get {s : ByteArray} {m i : Nat} (hm : m ≤ s.size) (hi : i < m) : (hd s m).get! i = s.get! i := by
  have := get!_extract s 0 m i (by omega) hm (by omega)
  rwa [Nat.zero_add] at this
theorem tl_get {s : ByteArray} {n i : Nat} (hn : n ≤ s.size) (hi : i < s.size - n) : (tl s n).get! i = s.get! (n + i) :=
  get!_extract s n s.size i hn (Nat.le_refl _) hi
theorem com_iff {a b : ByteArray} {m : Nat} : Com a b m ↔ m ≤ a.size ∧ m ≤ b.size ∧ ∀ i, i < m → fAt a i = fAt b i := by
  unfold Com fAt
  constructor
  · rintro ⟨h1, h2, h3⟩
    refine ⟨h1, h2, fun i hi => ?_⟩
    rw [← hd_get h1 hi, ← hd_get h2 hi, h3]
  · rintro ⟨h1, h2, h3⟩
    refine ⟨h1, h2, ext_get (by rw [hd_size h1, hd_size h2]) fun i hi => ?_⟩
    rw [hd_size h1] at hi
    rw [hd_get h1 hi, hd_get h2 hi]
    exact get!_toNat (h3 i hi)
theorem cot_iff {a b : ByteArray} {m : Nat} : Cot a b m ↔ m ≤ a.size ∧ m ≤ b.size ∧ ∀ i, i < m → bAt a i = bAt b i := by
  unfold Cot bAt
  have key : ∀ (s : ByteArray) (i : Nat), m ≤ s.size → i < m → (tl s (s.size - m)).get! (m - 1 - i) = s.get! (s.size - 1 - i) := fun s i h1 h2 => by
    rw [tl_get (by omega) (by omega)]; congr 1; omega
  constructor
  · rintro ⟨h1, h2, h3⟩
    refine ⟨h1, h2, fun i hi => ?_⟩
    rw [← key a i h1 hi, ← key b i h2 hi, h3]
  · rintro ⟨h1, h2, h3⟩
    refine ⟨h1, h2, ext_get (by rw [tl_size (by omega), tl_size (by omega)]; omega) fun i hi => ?_⟩
    rw [tl_size (by omega)] at hi
    have e : i = m - 1 - (m - 1 - i) := by omega
    rw [e, key a _ h1 (by omega), key b _ h2 (by omega)]
    exact get!_toNat (h3 _ (by omega))
theorem fwd_com {a b : ByteArray} {m : Nat} : Com a b m ↔ m ≤ fwdN a b (min a.size b.size) := by
  rw [com_iff]
  obtain ⟨h1, h2, h3, h4⟩ := cntTo_spec (fAt a) (fAt b) (min a.size b.size) 0
  unfold fwdN
  constructor
  · rintro ⟨k1, k2, k3⟩
    rcases Nat.lt_or_ge (cntTo (fAt a) (fAt b) (min a.size b.size) 0) m with h | h
    · rcases h4 with h4 | h4
      · omega
      · exact absurd (k3 _ h) h4
    · exact h
  · intro h
    exact ⟨by omega, by omega, fun i hi => h3 i (Nat.zero_le _) (by omega)⟩
/-- Counted from the end no farther than to a common beginning's end. -/
theorem bwd_cot {a b : ByteArray} {n m : Nat} (ha : n ≤ a.size) (hb : n ≤ b.size) : Cot (tl a n) (tl b n) m ↔ m ≤ bwdN a b (min a.size b.size - n) := by
  rw [cot_iff, tl_size ha, tl_size hb]
  have key : ∀ (s : ByteArray) (i : Nat), n ≤ s.size → i < s.size - n → bAt (tl s n) i = bAt s i := fun s i h1 h2 => by
    unfold bAt; rw [tl_size h1, tl_get h1 (by omega)]; congr 2; omega
  obtain ⟨h1, h2, h3, h4⟩ := cntTo_spec (bAt a) (bAt b) (min a.size b.size - n) 0
  unfold bwdN
  constructor
  · rintro ⟨k1, k2, k3⟩
    rcases Nat.lt_or_ge (cntTo (bAt a) (bAt b) (min a.size b.size - n) 0) m with h | h
    · rcases h4 with h4 | h4
      · omega
      · have := k3 _ h
        rw [key a _ ha (by omega), key b _ hb (by omega)] at this
        exact absurd this h4
    · exact h
  · intro h
    refine ⟨by omega, by omega, fun i hi => ?_⟩
    rw [key a _ ha (by omega), key b _ hb (by omega)]
    exact h3 i (Nat.zero_le _) (by omega)

/-- The longest beginning of at most so many bytes that ends where a scalar begins. -/
theorem cutE_spec (most : Int) : ∀ (l : List (Nat × Nat)) (pos e : Nat), Wide l → most < ((pos + sumW l : Nat) : Int) → (pos : Int) ≤ most →
    ∃ l1 l2, l = l1 ++ l2 ∧ cutE l pos most e = pos + sumW l1 ∧ ((cutE l pos most e : Nat) : Int) ≤ most ∧ ∀ m1 m2, l = m1 ++ m2 → ((pos + sumW m1 : Nat) : Int) ≤ most → pos + sumW m1 ≤ cutE l pos most e
  | [], pos, e, _, h, h2 => by simp only [sumW] at h; omega
  | x :: t, pos, e, hw, h, h2 => by
    have hx := hw x (by simp)
    simp only [sumW] at h
    simp only [cutE]
    rw [if_neg (by omega)]
    by_cases h3 : most < ((pos + x.2 : Nat) : Int)
    · have hc : cutE t (pos + x.2) most pos = pos := by
        cases t with
        | nil => rfl
        | cons y t => simp only [cutE]; rw [if_pos h3]
      rw [hc]
      refine ⟨[], x :: t, rfl, by simp [sumW], h2, fun m1 m2 hm hle => ?_⟩
      cases m1 with
      | nil => simp [sumW]
      | cons y m1 =>
        simp only [List.cons_append, List.cons.injEq] at hm
        rw [← hm.1] at hle
        simp only [sumW] at hle; omega
    · obtain ⟨l1, l2, k1, k2, k3, k4⟩ := cutE_spec most t (pos + x.2) pos (fun y hy => hw y (by simp [hy])) (by omega) (by omega)
      refine ⟨x :: l1, l2, by rw [k1]; rfl, by rw [k2]; simp only [sumW]; omega, k3, fun m1 m2 hm hle => ?_⟩
      cases m1 with
      | nil => rw [k2]; simp only [sumW]; omega
      | cons y m1 =>
        simp only [List.cons_append, List.cons.injEq] at hm
        rw [← hm.1] at hle ⊢
        simp only [sumW] at hle ⊢
        have := k4 m1 m2 hm.2 (by omega)
        omega
theorem cutB_spec {s : ByteArray} {c : Nat} (hok : okB s = true) (hc : c ≤ s.size) :
    (cutB s c).size ≤ c ∧ cutB s c = hd s (cutB s c).size ∧ okB (hd s (cutB s c).size) = true ∧ ∀ m, m ≤ c → okB (hd s m) = true → m ≤ (cutB s c).size := by
  unfold cutB
  rw [if_pos hok]
  by_cases h : (s.size : Int) ≤ (c : Int)
  · obtain rfl : c = s.size := by omega
    rw [if_pos h]
    exact ⟨Nat.le_refl _, (hd_all s).symm, by rw [hd_all]; exact hok, fun m hm _ => hm⟩
  · rw [if_neg h]
    obtain ⟨l1, l2, k1, k2, k3, k4⟩ := cutE_spec (c : Int) (items s) 0 0 (itemsF_wide _ _ _) (by rw [sumW_items]; omega) (by omega)
    generalize cutE (items s) 0 (c : Int) 0 = r at *
    have hr : r ≤ s.size := by omega
    have hz : (s.extract 0 r).size = r := hd_size hr
    rw [hz]
    refine ⟨by omega, rfl, (bnd_iff hok hr).1 ⟨l1, l2, k1, by omega⟩, fun m hm hmo => ?_⟩
    obtain ⟨m1, m2, e1, e2⟩ := (bnd_iff hok (by omega)).2 hmo
    have := k4 m1 m2 e1 (by omega)
    omega
theorem beg_cut {a b : ByteArray} (ha : okB a = true) : Beg a b (cutB a (fwdN a b (min a.size b.size) : Nat)).size := by
  have hle := fwdN_le a b (min a.size b.size)
  obtain ⟨h1, h2, h3, h4⟩ := cutB_spec (c := fwdN a b (min a.size b.size)) ha (by omega)
  obtain ⟨k1, k2, k3⟩ := fwd_com.2 h1
  exact ⟨k1, k2, k3, h3, fun m m1 m2 m3 m4 => h4 m (fwd_com.1 ⟨m1, m2, m3⟩) m4⟩
/-- Gone down from so many last bytes to a right ending. -/
def NoFin (a : ByteArray) (top e : Nat) : Prop := ∀ m, e < m → m ≤ top → okB (tl a (a.size - m)) = false
theorem noFin_top (a : ByteArray) (top : Nat) : NoFin a top top := fun m h1 h2 => by omega
theorem noFin_down {a : ByteArray} {top e : Nat} (h : NoFin a top (e + 1)) (hne : okB (tl a (a.size - (e + 1))) = false) : NoFin a top e := fun m h1 h2 => by
  rcases Nat.eq_or_lt_of_le (show e + 1 ≤ m from h1) with h3 | h3
  · rw [← h3]; exact hne
  · exact h m h3 h2
theorem fin_at {a b : ByteArray} {n e : Nat} (ha : n ≤ a.size) (hb : n ≤ b.size) (h : NoFin a (bwdN a b (min a.size b.size - n)) e) (he : e ≤ bwdN a b (min a.size b.size - n)) (hok : okB (tl a (a.size - e)) = true) : Fin (tl a n) (tl b n) e := by
  obtain ⟨h1, h2, h3⟩ := (bwd_cot ha hb).2 he
  refine ⟨h1, h2, h3, by rw [tl_tl ha h1]; exact hok, fun m m1 m2 m3 m4 => ?_⟩
  rcases Nat.lt_or_ge e m with h5 | h5
  · rw [tl_tl ha m1] at m4
    have := h m h5 ((bwd_cot ha hb).1 ⟨m1, m2, m3⟩)
    rw [m4] at this; cases this
  · exact h5
end Go.Proofs.YtlmefchcljfjlaaDoor.E

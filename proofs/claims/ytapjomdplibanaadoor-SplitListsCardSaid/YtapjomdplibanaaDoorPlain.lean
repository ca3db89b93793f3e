/- Plain facts about texts and their units, over the model's own decoder: the scalars of a text, one behind the other, the units ahead of each, and what joined texts have. It imports nothing of the program. -/
import Derived.Lib.DecodeN
import Derived.Lib.ValidU
import Derived.Lib.ValidAsc
import Derived.Lib.RuneCountTail
namespace Go.Proofs.YtapjomdplibanaaDoor.U
open Go.Lib

/-- How many units a scalar has. -/
def uw (r : Nat) : Nat := if 65536 ≤ r then 2 else 1
theorem uw_pos (r : Nat) : 1 ≤ uw r := by unfold uw; split <;> omega
theorem uw_le (r : Nat) : uw r ≤ 2 := by unfold uw; split <;> omega

/-- The scalars from a place on, each with its width. -/
def itemsF (s : ByteArray) : Nat → Nat → List (Nat × Nat)
  | 0, _ => []
  | f + 1, pos => if pos < s.size then Utf8.decode s pos :: itemsF s f (pos + (Utf8.decode s pos).2) else []
def items (s : ByteArray) : List (Nat × Nat) := itemsF s s.size 0
/-- No scalar is a wrong byte's. -/
def okL : List (Nat × Nat) → Bool
  | [] => true
  | x :: t => if x.1 = 65533 ∧ x.2 = 1 then false else okL t
def okB (s : ByteArray) : Bool := okL (items s)

theorem decodeN_bounds (n b0 b1 b2 b3 : Nat) (hn : 1 ≤ n) : 1 ≤ (decodeN n b0 b1 b2 b3).2 ∧ (decodeN n b0 b1 b2 b3).2 ≤ n := by
  unfold decodeN
  repeat' split
  all_goals (simp only; omega)
theorem width_pos (s : ByteArray) (pos : Nat) (h : pos < s.size) : 1 ≤ (Utf8.decode s pos).2 := by
  rw [decode_at]; exact (decodeN_bounds _ _ _ _ _ (by omega)).1
theorem width_le (s : ByteArray) (pos : Nat) (h : pos < s.size) : pos + (Utf8.decode s pos).2 ≤ s.size := by
  rw [decode_at]; have := (decodeN_bounds (s.size - pos) (s.get! pos).toNat (s.get! (pos + 1)).toNat (s.get! (pos + 2)).toNat (s.get! (pos + 3)).toNat (by omega)).2; omega
theorem decodeN_rune (n b0 b1 b2 b3 : Nat) (h0 : b0 < 256) : (decodeN n b0 b1 b2 b3).1 ≤ 1114111 := by
  unfold decodeN
  repeat' split
  all_goals (simp only; omega)
theorem rune_le (s : ByteArray) (pos : Nat) : (Utf8.decode s pos).1 ≤ 1114111 := by rw [decode_at]; exact decodeN_rune _ _ _ _ _ (UInt8.toNat_lt _)

theorem itemsF_end (s : ByteArray) (f pos : Nat) (h : ¬ pos < s.size) : itemsF s f pos = [] := by cases f <;> simp [itemsF, h]
theorem itemsF_step (s : ByteArray) (f pos : Nat) (h : pos < s.size) : itemsF s (f + 1) pos = Utf8.decode s pos :: itemsF s f (pos + (Utf8.decode s pos).2) := by simp [itemsF, h]
theorem itemsF_fuel (s : ByteArray) : ∀ f g pos, s.size - pos ≤ f → s.size - pos ≤ g → itemsF s f pos = itemsF s g pos
  | 0, g, pos, hf, _ => by rw [itemsF_end s 0 pos (by omega), itemsF_end s g pos (by omega)]
  | f + 1, g, pos, hf, hg => by
    by_cases h : pos < s.size
    · obtain ⟨g, rfl⟩ : ∃ k, g = k + 1 := ⟨g - 1, by omega⟩
      have := width_pos s pos h
      rw [itemsF_step s f pos h, itemsF_step s g pos h, itemsF_fuel s f g _ (by omega) (by omega)]
    · rw [itemsF_end s _ pos h, itemsF_end s _ pos h]

/-- Each scalar has a width of one at least. -/
def Wide (l : List (Nat × Nat)) : Prop := ∀ x ∈ l, 1 ≤ x.2
theorem itemsF_wide (s : ByteArray) : ∀ f pos, Wide (itemsF s f pos)
  | 0, _ => by intro x hx; cases hx
  | f + 1, pos => by
    intro x hx
    by_cases h : pos < s.size
    · rw [itemsF_step s f pos h] at hx
      rcases List.mem_cons.1 hx with rfl | hx
      · exact width_pos s pos h
      · exact itemsF_wide s f _ x hx
    · rw [itemsF_end s _ pos h] at hx; cases hx

def sumW : List (Nat × Nat) → Nat
  | [] => 0
  | x :: t => x.2 + sumW t
def sumU : List (Nat × Nat) → Nat
  | [] => 0
  | x :: t => uw x.1 + sumU t
theorem sumU_le : ∀ l : List (Nat × Nat), Wide l → sumU l ≤ 2 * sumW l
  | [], _ => by simp [sumU, sumW]
  | x :: t, h => by
    have h1 := h x (by simp)
    have h2 := sumU_le t (fun y hy => h y (by simp [hy]))
    have := uw_le x.1
    simp only [sumU, sumW]; omega
theorem sumW_itemsF (s : ByteArray) : ∀ f pos, s.size - pos ≤ f → pos ≤ s.size → sumW (itemsF s f pos) = s.size - pos
  | 0, pos, hf, hp => by simp only [itemsF, sumW]; omega
  | f + 1, pos, hf, hp => by
    by_cases h : pos < s.size
    · have h1 := width_pos s pos h
      have h2 := width_le s pos h
      rw [itemsF_step s f pos h]; simp only [sumW]
      rw [sumW_itemsF s f _ (by omega) h2]; omega
    · rw [itemsF_end s _ pos h]; simp only [sumW]; omega
theorem sumW_items (s : ByteArray) : sumW (items s) = s.size := by unfold items; rw [sumW_itemsF s s.size 0 (by omega) (by omega)]; omega
theorem sumU_items (s : ByteArray) : sumU (items s) ≤ 2 * s.size := by rw [← sumW_items s]; exact sumU_le _ (itemsF_wide s _ _)

/-! ### Right -/
theorem decodeL_drop (s : ByteArray) (pos : Nat) : decodeL (s.data.toList.drop pos) = Utf8.decode s pos := by
  have h := tail_decode s pos 0
  rw [Nat.add_zero] at h
  rw [← h]
  unfold decodeL
  rw [← ext_list s pos]
theorem validGo_ok (s : ByteArray) : ∀ n pos, validGoD n (s.data.toList.drop pos) = okL (itemsF s n pos)
  | 0, _ => rfl
  | n + 1, pos => by
    unfold validGoD
    by_cases h : pos < s.size
    · have hne : ¬ s.data.toList.drop pos = [] := by
        intro e
        have := congrArg List.length e
        simp at this
        have h2 : s.data.size = s.size := rfl
        omega
      rw [if_neg hne, itemsF_step s n pos h, decodeL_drop]
      simp only [okL]
      split
      · rfl
      · rw [List.drop_drop, validGo_ok s n]
    · have he : s.data.toList.drop pos = [] := by
        apply List.drop_eq_nil_of_le
        have h2 : s.data.size = s.size := rfl
        simp; omega
      rw [if_pos he, itemsF_end s _ pos h]; rfl
theorem valid_ok (s : ByteArray) : validD s.data.toList = okB s := by
  unfold validD okB items
  have h := validGo_ok s s.size 0
  rw [List.drop_zero] at h
  have h2 : s.data.toList.length = s.size := by simp
  rw [h2, h]

/-! ### Places -/
def off : List (Nat × Nat) → Nat → Nat → Int → Int × Int
  | [], pos, ahead, unit => if (ahead : Int) = unit then ((pos : Int), 0) else (0, 12)
  | x :: t, pos, ahead, unit => if (ahead : Int) = unit then ((pos : Int), 0) else off t (pos + x.2) (ahead + uw x.1) unit
def uni : List (Nat × Nat) → Nat → Nat → Int → Int × Int
  | [], pos, ahead, at' => if (pos : Int) = at' then ((ahead : Int), 0) else (0, 12)
  | x :: t, pos, ahead, at' => if (pos : Int) = at' then ((ahead : Int), 0) else uni t (pos + x.2) (ahead + uw x.1) at'
def cutE : List (Nat × Nat) → Nat → Int → Nat → Nat
  | [], _, _, e => e
  | x :: t, pos, most, e => if most < (pos : Int) then e else cutE t (pos + x.2) most pos

/-- What the calls answer. -/
def offB (s : ByteArray) (unit : Int) : Int × Int := if okB s then off (items s) 0 0 unit else (0, 11)
def uniB (s : ByteArray) (at' : Int) : Int × Int := if okB s then uni (items s) 0 0 at' else (0, 11)
def cutB (s : ByteArray) (most : Int) : ByteArray :=
  if okB s then (if (s.size : Int) ≤ most then s else s.extract 0 (cutE (items s) 0 most 0)) else ⟨#[]⟩
def unitsL : List ByteArray → Nat → Int × Int
  | [], acc => ((acc : Int), 0)
  | s :: t, acc => if okB s then unitsL t (acc + sumU (items s)) else (0, 11)

def bytes : List ByteArray → Nat
  | [] => 0
  | s :: t => s.size + bytes t
theorem bytes_mem : ∀ (l : List ByteArray) (s : ByteArray), s ∈ l → s.size ≤ bytes l
  | [], s, h => by cases h
  | x :: t, s, h => by
    simp only [bytes]
    rcases List.mem_cons.1 h with rfl | h
    · omega
    · have := bytes_mem t s h; omega
theorem drop_at (l : List ByteArray) (i : Nat) (h : i < l.length) : l.drop i = l.getD i ByteArray.empty :: l.drop (i + 1) := by
  rw [List.getD_eq_getElem?_getD, List.getElem?_eq_getElem h, Option.getD_some]
  exact List.drop_eq_getElem_cons h
theorem getD_mem (l : List ByteArray) (i : Nat) (h : i < l.length) : l.getD i ByteArray.empty ∈ l := by
  rw [List.getD_eq_getElem?_getD, List.getElem?_eq_getElem h, Option.getD_some]
  exact List.getElem_mem h
theorem unitsL_step (l : List ByteArray) (i acc : Nat) (h : i < l.length) (hok : okB (l.getD i ByteArray.empty) = true) :
    unitsL (l.drop i) acc = unitsL (l.drop (i + 1)) (acc + sumU (items (l.getD i ByteArray.empty))) := by
  rw [drop_at l i h]; simp only [unitsL]; rw [if_pos hok]
theorem unitsL_wrong (l : List ByteArray) (i acc : Nat) (h : i < l.length) (hok : okB (l.getD i ByteArray.empty) = false) : unitsL (l.drop i) acc = (0, 11) := by
  rw [drop_at l i h]; simp only [unitsL]; rw [if_neg (by rw [hok]; simp)]
theorem unitsL_done (l : List ByteArray) (i acc : Nat) (h : ¬ i < l.length) : unitsL (l.drop i) acc = ((acc : Int), 0) := by
  rw [List.drop_eq_nil_of_le (by omega)]; rfl
theorem bytes_step (l : List ByteArray) (i : Nat) (h : i < l.length) : bytes (l.drop i) = (l.getD i ByteArray.empty).size + bytes (l.drop (i + 1)) := by
  rw [drop_at l i h]; rfl
theorem off_hit (l : List (Nat × Nat)) (pos ahead : Nat) (unit : Int) (h : (ahead : Int) = unit) : off l pos ahead unit = ((pos : Int), 0) := by
  cases l <;> simp only [off] <;> rw [if_pos h]
theorem off_miss (s : ByteArray) (f pos ahead : Nat) (unit : Int) (hp : pos < s.size) (h : ¬ (ahead : Int) = unit) :
    off (itemsF s (f + 1) pos) pos ahead unit = off (itemsF s f (pos + (Utf8.decode s pos).2)) (pos + (Utf8.decode s pos).2) (ahead + uw (Utf8.decode s pos).1) unit := by
  rw [itemsF_step s f pos hp]; simp only [off]; rw [if_neg h]
theorem off_done (s : ByteArray) (f pos ahead : Nat) (unit : Int) (hp : ¬ pos < s.size) (h : ¬ (ahead : Int) = unit) : off (itemsF s f pos) pos ahead unit = (0, 12) := by
  rw [itemsF_end s f pos hp]; simp only [off]; rw [if_neg h]
theorem uni_hit (l : List (Nat × Nat)) (pos ahead : Nat) (a : Int) (h : (pos : Int) = a) : uni l pos ahead a = ((ahead : Int), 0) := by
  cases l <;> simp only [uni] <;> rw [if_pos h]
theorem uni_miss (s : ByteArray) (f pos ahead : Nat) (a : Int) (hp : pos < s.size) (h : ¬ (pos : Int) = a) :
    uni (itemsF s (f + 1) pos) pos ahead a = uni (itemsF s f (pos + (Utf8.decode s pos).2)) (pos + (Utf8.decode s pos).2) (ahead + uw (Utf8.decode s pos).1) a := by
  rw [itemsF_step s f pos hp]; simp only [uni]; rw [if_neg h]
theorem uni_done (s : ByteArray) (f pos ahead : Nat) (a : Int) (hp : ¬ pos < s.size) (h : ¬ (pos : Int) = a) : uni (itemsF s f pos) pos ahead a = (0, 12) := by
  rw [itemsF_end s f pos hp]; simp only [uni]; rw [if_neg h]
theorem cut_stop (s : ByteArray) (f pos e : Nat) (most : Int) (hp : pos < s.size) (h : most < (pos : Int)) : cutE (itemsF s (f + 1) pos) pos most e = e := by
  rw [itemsF_step s f pos hp]; simp only [cutE]; rw [if_pos h]
theorem cut_on (s : ByteArray) (f pos e : Nat) (most : Int) (hp : pos < s.size) (h : ¬ most < (pos : Int)) :
    cutE (itemsF s (f + 1) pos) pos most e = cutE (itemsF s f (pos + (Utf8.decode s pos).2)) (pos + (Utf8.decode s pos).2) most pos := by
  rw [itemsF_step s f pos hp]; simp only [cutE]; rw [if_neg h]
theorem cut_done (s : ByteArray) (f pos e : Nat) (most : Int) (hp : ¬ pos < s.size) : cutE (itemsF s f pos) pos most e = e := by
  rw [itemsF_end s f pos hp]; rfl
theorem sumU_step (s : ByteArray) (f pos : Nat) (hp : pos < s.size) : sumU (itemsF s (f + 1) pos) = uw (Utf8.decode s pos).1 + sumU (itemsF s f (pos + (Utf8.decode s pos).2)) := by
  rw [itemsF_step s f pos hp]; rfl
theorem sumU_done (s : ByteArray) (f pos : Nat) (hp : ¬ pos < s.size) : sumU (itemsF s f pos) = 0 := by rw [itemsF_end s f pos hp]; rfl
theorem off_low : ∀ (l : List (Nat × Nat)) (pos ahead : Nat) (unit : Int), unit < ahead → off l pos ahead unit = (0, 12)
  | [], pos, ahead, unit, h => by simp only [off]; rw [if_neg (by omega)]
  | x :: t, pos, ahead, unit, h => by
    simp only [off]; rw [if_neg (by omega)]
    exact off_low t _ _ unit (by have := uw_pos x.1; omega)
theorem off_high : ∀ (l : List (Nat × Nat)) (pos ahead : Nat) (unit : Int), ((ahead + sumU l : Nat) : Int) < unit → off l pos ahead unit = (0, 12)
  | [], pos, ahead, unit, h => by simp only [off, sumU] at *; rw [if_neg (by omega)]
  | x :: t, pos, ahead, unit, h => by
    simp only [sumU] at h
    simp only [off]; rw [if_neg (by omega)]
    exact off_high t _ _ unit (by omega)

/-- THERE: the place of a unit that has one: it is there again, with so many units ahead, and a longest beginning ends there. -/
theorem off_there : ∀ (l : List (Nat × Nat)) (pos ahead : Nat) (unit a : Int), Wide l → off l pos ahead unit = (a, 0) →
    (pos : Int) ≤ a ∧ a ≤ ((pos + sumW l : Nat) : Int) ∧ (ahead : Int) ≤ unit ∧ unit ≤ ((ahead + sumU l : Nat) : Int) ∧ uni l pos ahead a = (unit, 0) ∧
      (unit = ((ahead + sumU l : Nat) : Int) ↔ a = ((pos + sumW l : Nat) : Int))
  | [], pos, ahead, unit, a, _, h => by
    simp only [off, sumW, sumU, uni] at *
    split at h
    · rename_i hu
      simp only [Prod.mk.injEq, and_true] at h
      subst hu; subst h
      refine ⟨by omega, by omega, by omega, by omega, by simp, by omega⟩
    · simp at h
  | x :: t, pos, ahead, unit, a, hw, h => by
    have hx := hw x (by simp)
    have hux := uw_pos x.1
    simp only [off] at h
    split at h
    · rename_i hu
      simp only [Prod.mk.injEq, and_true] at h
      subst hu; subst h
      simp only [sumW, sumU, uni]
      refine ⟨by omega, by omega, by omega, by omega, by simp, ?_⟩
      constructor
      · intro he; omega
      · intro he; omega
    · rename_i hu
      obtain ⟨h1, h2, h3, h4, h5, h6⟩ := off_there t _ _ unit a (fun y hy => hw y (by simp [hy])) h
      simp only [sumW, sumU, uni]
      refine ⟨by omega, by omega, by omega, by omega, ?_, ?_⟩
      · rw [if_neg (by omega)]; exact h5
      · constructor
        · intro he; have := h6.1 (by omega); omega
        · intro he; have := h6.2 (by omega); omega
theorem off_cut : ∀ (l : List (Nat × Nat)) (pos ahead e : Nat) (unit a : Int), Wide l → off l pos ahead unit = (a, 0) → a < ((pos + sumW l : Nat) : Int) →
    ((cutE l pos a e : Nat) : Int) = a
  | [], pos, ahead, e, unit, a, _, h, hlt => by
    simp only [off, sumW] at *
    split at h
    · simp only [Prod.mk.injEq, and_true] at h; omega
    · simp at h
  | x :: t, pos, ahead, e, unit, a, hw, h, hlt => by
    have hx := hw x (by simp)
    simp only [sumW] at hlt
    simp only [off] at h
    split at h
    · rename_i hu
      simp only [Prod.mk.injEq, and_true] at h
      subst h
      simp only [cutE]
      rw [if_neg (by omega)]
      cases t with
      | nil => rfl
      | cons y t => simp only [cutE]; rw [if_pos (by omega)]
    · rename_i hu
      have h1 := (off_there t _ _ unit a (fun y hy => hw y (by simp [hy])) h).1
      simp only [cutE]
      rw [if_neg (by omega)]
      exact off_cut t _ _ pos unit a (fun y hy => hw y (by simp [hy])) h (by omega)
theorem off_or : ∀ (l : List (Nat × Nat)) (pos ahead : Nat) (unit : Int), (off l pos ahead unit = (0, 12)) ∨ ∃ a, off l pos ahead unit = (a, 0)
  | [], pos, ahead, unit => by
    simp only [off]; split
    · exact .inr ⟨_, rfl⟩
    · exact .inl rfl
  | x :: t, pos, ahead, unit => by
    simp only [off]; split
    · exact .inr ⟨_, rfl⟩
    · exact off_or t _ _ unit
/-- A unit within that has no place: the one ahead of it has one. -/
theorem off_gap : ∀ (l : List (Nat × Nat)) (pos ahead : Nat) (unit : Int), (ahead : Int) ≤ unit → unit ≤ ((ahead + sumU l : Nat) : Int) → off l pos ahead unit = (0, 12) → ∃ a, off l pos ahead (unit - 1) = (a, 0)
  | [], pos, ahead, unit, h1, h2, h => by
    simp only [off, sumU] at *
    rw [if_pos (by omega)] at h
    simp at h
  | x :: t, pos, ahead, unit, h1, h2, h => by
    have hu := uw_le x.1
    simp only [sumU] at h2
    simp only [off] at h ⊢
    split at h
    · simp at h
    · rename_i hne
      split
      · exact ⟨_, rfl⟩
      · rename_i hne2
        exact off_gap t _ _ unit (by omega) (by omega) h

/-! ### Joined -/
theorem size_append (a b : ByteArray) : (a ++ b).size = a.size + b.size := by simp [ByteArray.size_append]
theorem get!_left (a b : ByteArray) (i : Nat) (h : i < a.size) : (a ++ b).get! i = a.get! i := by
  rw [← getD_get!', ← getD_get!']
  have : (a ++ b).data.toList = a.data.toList ++ b.data.toList := by simp [ByteArray.data_append]
  rw [this, List.getD_eq_getElem?_getD, List.getD_eq_getElem?_getD, List.getElem?_append_left (by simpa using h)]
theorem get!_right (a b : ByteArray) (i : Nat) : (a ++ b).get! (a.size + i) = b.get! i := by
  rw [← getD_get!', ← getD_get!']
  have : (a ++ b).data.toList = a.data.toList ++ b.data.toList := by simp [ByteArray.data_append]
  have h2 : a.data.toList.length = a.size := by simp
  rw [this, List.getD_eq_getElem?_getD, List.getD_eq_getElem?_getD, List.getElem?_append_right (by omega), h2, Nat.add_sub_cancel_left]
theorem decode_right (a b : ByteArray) (pos : Nat) : Utf8.decode (a ++ b) (a.size + pos) = Utf8.decode b pos := by
  rw [decode_at, decode_at, size_append, get!_right, Nat.add_assoc, get!_right, Nat.add_assoc, get!_right, Nat.add_assoc, get!_right]
  congr 1
  omega
theorem decodeN_more (n k b0 b1 b2 b3 c1 c2 c3 : Nat) (h1 : 1 < n → c1 = b1) (h2 : 2 < n → c2 = b2) (h3 : 3 < n → c3 = b3)
    (hok : ¬ ((decodeN n b0 b1 b2 b3).1 = 65533 ∧ (decodeN n b0 b1 b2 b3).2 = 1)) : decodeN (n + k) b0 c1 c2 c3 = decodeN n b0 b1 b2 b3 := by
  unfold decodeN at hok ⊢
  by_cases c0 : b0 < 128
  · simp [c0]
  · rw [if_neg c0] at hok ⊢
    rw [if_neg c0]
    by_cases q1 : b0 / 32 = 6 ∧ (1 < n ∧ b1 / 64 = 2)
    · have e1 := h1 q1.2.1
      subst e1
      rw [if_pos q1, if_pos ⟨q1.1, by omega, q1.2.2⟩]
    · rw [if_neg q1] at hok ⊢
      by_cases q2 : b0 / 16 = 14 ∧ (1 < n ∧ b1 / 64 = 2) ∧ (2 < n ∧ b2 / 64 = 2)
      · have e1 := h1 q2.2.1.1
        have e2 := h2 q2.2.2.1
        subst e1; subst e2
        rw [if_pos q2, if_neg (by omega), if_pos ⟨q2.1, ⟨by omega, q2.2.1.2⟩, by omega, q2.2.2.2⟩]
      · rw [if_neg q2] at hok ⊢
        by_cases q3 : b0 / 8 = 30 ∧ (1 < n ∧ b1 / 64 = 2) ∧ (2 < n ∧ b2 / 64 = 2) ∧ (3 < n ∧ b3 / 64 = 2)
        · have e1 := h1 q3.2.1.1
          have e2 := h2 q3.2.2.1.1
          have e3 := h3 q3.2.2.2.1
          subst e1; subst e2; subst e3
          rw [if_pos q3, if_neg (by omega), if_neg (by omega), if_pos ⟨q3.1, ⟨by omega, q3.2.1.2⟩, ⟨by omega, q3.2.2.1.2⟩, by omega, q3.2.2.2.2⟩]
        · rw [if_neg q3] at hok
          simp at hok
theorem decode_left (a b : ByteArray) (pos : Nat) (h : pos < a.size) (hok : ¬ ((Utf8.decode a pos).1 = 65533 ∧ (Utf8.decode a pos).2 = 1)) : Utf8.decode (a ++ b) pos = Utf8.decode a pos := by
  rw [decode_at] at hok
  rw [decode_at, decode_at, get!_left a b pos h, size_append]
  have e : a.size + b.size - pos = (a.size - pos) + b.size := by omega
  rw [e]
  refine decodeN_more _ _ _ _ _ _ _ _ _ (fun h1 => ?_) (fun h1 => ?_) (fun h1 => ?_) hok
  · rw [get!_left a b _ (by omega)]
  · rw [get!_left a b _ (by omega)]
  · rw [get!_left a b _ (by omega)]
theorem itemsF_right (a b : ByteArray) : ∀ f pos, itemsF (a ++ b) f (a.size + pos) = itemsF b f pos
  | 0, _ => rfl
  | f + 1, pos => by
    by_cases h : pos < b.size
    · rw [itemsF_step _ f _ (by rw [size_append]; omega), itemsF_step b f pos h, decode_right, Nat.add_assoc, itemsF_right a b f]
    · rw [itemsF_end _ _ _ (by rw [size_append]; omega), itemsF_end b _ pos h]
theorem itemsF_left (a b : ByteArray) : ∀ f pos, a.size - pos ≤ f → pos ≤ a.size → okL (itemsF a f pos) = true →
    itemsF (a ++ b) (f + b.size) pos = itemsF a f pos ++ items b
  | 0, pos, hf, hp, _ => by
    obtain rfl : pos = a.size := by omega
    rw [Nat.zero_add]
    have := itemsF_right a b b.size 0
    rw [Nat.add_zero] at this
    rw [this]; rfl
  | f + 1, pos, hf, hp, hok => by
    by_cases h : pos < a.size
    · rw [itemsF_step a f pos h] at hok ⊢
      simp only [okL] at hok
      split at hok
      · cases hok
      · rename_i hne
        have hl := decode_left a b pos h hne
        have e : f + 1 + b.size = (f + b.size) + 1 := by omega
        have hw := width_pos a pos h
        rw [e, itemsF_step _ _ pos (by rw [size_append]; omega), hl, itemsF_left a b f _ (by omega) (width_le a pos h) hok]
        rfl
    · obtain rfl : pos = a.size := by omega
      rw [itemsF_end a _ _ h]
      have hr := itemsF_right a b (f + 1 + b.size) 0
      rw [Nat.add_zero a.size] at hr
      rw [hr, List.nil_append]
      exact itemsF_fuel b _ _ 0 (by omega) (by omega)
theorem items_append (a b : ByteArray) (h : okB a = true) : items (a ++ b) = items a ++ items b := by
  have := itemsF_left a b a.size 0 (by omega) (by omega) h
  unfold items
  rw [size_append]
  exact this
theorem okL_append : ∀ x y : List (Nat × Nat), okL (x ++ y) = (okL x && okL y)
  | [], y => by simp [okL]
  | x :: t, y => by
    simp only [List.cons_append, okL]
    split
    · rfl
    · exact okL_append t y
theorem okB_append (a b : ByteArray) (ha : okB a = true) (hb : okB b = true) : okB (a ++ b) = true := by
  unfold okB at *
  rw [items_append a b ha, okL_append, ha, hb]; rfl
theorem sumU_append : ∀ x y : List (Nat × Nat), sumU (x ++ y) = sumU x + sumU y
  | [], y => by simp [sumU]
  | x :: t, y => by simp only [List.cons_append, sumU, sumU_append t y]; omega
theorem sumW_append : ∀ x y : List (Nat × Nat), sumW (x ++ y) = sumW x + sumW y
  | [], y => by simp [sumW]
  | x :: t, y => by simp only [List.cons_append, sumW, sumW_append t y]; omega
/-- The place of a unit of the second of two lists. -/
theorem off_append : ∀ (x y : List (Nat × Nat)) (pos ahead : Nat) (u : Nat), off (x ++ y) pos ahead ((ahead + sumU x + u : Nat) : Int) = off y (pos + sumW x) (ahead + sumU x) ((ahead + sumU x + u : Nat) : Int)
  | [], y, pos, ahead, u => by simp [sumU, sumW]
  | x :: t, y, pos, ahead, u => by
    have hu := uw_pos x.1
    simp only [List.cons_append, off, sumU, sumW]
    rw [if_neg (by omega)]
    have := off_append t y (pos + x.2) (ahead + uw x.1) u
    have e1 : ahead + uw x.1 + sumU t + u = ahead + (uw x.1 + sumU t) + u := by omega
    have e2 : ahead + uw x.1 + sumU t = ahead + (uw x.1 + sumU t) := by omega
    have e3 : pos + x.2 + sumW t = pos + (x.2 + sumW t) := by omega
    rw [e1, e2, e3] at this
    exact this
/-- Moved places. -/
theorem off_moved : ∀ (l : List (Nat × Nat)) (pos ahead p k : Nat) (unit : Int), (∃ a, off l pos ahead unit = (a, 0) ∧ off l (pos + p) (ahead + k) (unit + k) = (a + p, 0)) ∨ (off l pos ahead unit = (0, 12) ∧ off l (pos + p) (ahead + k) (unit + k) = (0, 12))
  | [], pos, ahead, p, k, unit => by
    simp only [off]
    by_cases h : (ahead : Int) = unit
    · rw [if_pos h, if_pos (by omega)]
      exact .inl ⟨_, rfl, by simp⟩
    · rw [if_neg h, if_neg (by omega)]
      exact .inr ⟨rfl, rfl⟩
  | x :: t, pos, ahead, p, k, unit => by
    simp only [off]
    by_cases h : (ahead : Int) = unit
    · rw [if_pos h, if_pos (by omega)]
      exact .inl ⟨_, rfl, by simp⟩
    · rw [if_neg h, if_neg (by omega)]
      have e1 : pos + p + x.2 = pos + x.2 + p := by omega
      have e2 : ahead + k + uw x.1 = ahead + uw x.1 + k := by omega
      rw [e1, e2]
      exact off_moved t _ _ p k unit
end Go.Proofs.YtapjomdplibanaaDoor.U

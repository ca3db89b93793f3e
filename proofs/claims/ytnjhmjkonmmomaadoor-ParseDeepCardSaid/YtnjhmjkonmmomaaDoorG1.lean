/- The texts Plain, SPlain, SAgain, TPlain, KPlain, SRef1, joined. -/
import Derived.Lib.DecodeN
import Derived.Lib.ValidU
import Derived.Lib.ValidAsc
import Derived.Lib.RuneCountTail
import Derived.Test.YtnjhmjkonmmomaaDoorProg
import Derived.WalkKit
import Derived.WalkMore
import Derived.WalkSmall
import Derived.Below
import Derived.Lib.Hide
/- Plain: Plain facts about texts and their units, over the model's own decoder: the scalars of a text, one behind the other, the units ahead of each, and what joined texts have. It imports nothing of the program. -/
section
namespace Go.Proofs.YtnjhmjkonmmomaaDoor.U
open Go.Lib

/-- How many units a scalar has. -/
def uw (r : Nat) : Nat := if 65536 ≤ r then 2 else 1
theorem uw_pos (r : Nat) : 1 ≤ uw r := by unfold uw; split <;> omega
theorem uw_le (r : Nat) : uw r ≤ 2 := by unfold uw; split <;> omega

/-- The scalars from a place on, each with its width. -/
def itemsF (s : ByteArray) : Nat → Nat → List (Nat × Nat)
  | 0, _ => []
  | f + 1, pos => if pos < s.size then Utf8.decode s pos :: itemsF s f (pos + (Utf8.decode s pos).2) else []
def items (s : ByteArray) : List (Nat × Nat) := itemsF s s.size 0
/-- No scalar is a wrong byte's. -/
def okL : List (Nat × Nat) → Bool
  | [] => true
  | x :: t => if x.1 = 65533 ∧ x.2 = 1 then false else okL t
def okB (s : ByteArray) : Bool := okL (items s)

theorem decodeN_bounds (n b0 b1 b2 b3 : Nat) (hn : 1 ≤ n) : 1 ≤ (decodeN n b0 b1 b2 b3).2 ∧ (decodeN n b0 b1 b2 b3).2 ≤ n := by
  unfold decodeN
  repeat' split
  all_goals (simp only; omega)
theorem width_pos (s : ByteArray) (pos : Nat) (h : pos < s.size) : 1 ≤ (Utf8.decode s pos).2 := by
  rw [decode_at]; exact (decodeN_bounds _ _ _ _ _ (by omega)).1
theorem width_le (s : ByteArray) (pos : Nat) (h : pos < s.size) : pos + (Utf8.decode s pos).2 ≤ s.size := by
  rw [decode_at]; have := (decodeN_bounds (s.size - pos) (s.get! pos).toNat (s.get! (pos + 1)).toNat (s.get! (pos + 2)).toNat (s.get! (pos + 3)).toNat (by omega)).2; omega
theorem decodeN_rune (n b0 b1 b2 b3 : Nat) (h0 : b0 < 256) : (decodeN n b0 b1 b2 b3).1 ≤ 1114111 := by
  unfold decodeN
  repeat' split
  all_goals (simp only; omega)
theorem rune_le (s : ByteArray) (pos : Nat) : (Utf8.decode s pos).1 ≤ 1114111 := by rw [decode_at]; exact decodeN_rune _ _ _ _ _ (UInt8.toNat_lt _)

theorem itemsF_end (s : ByteArray) (f pos : Nat) (h : ¬ pos < s.size) : itemsF s f pos = [] := by cases f <;> simp [itemsF, h]
theorem itemsF_step (s : ByteArray) (f pos : Nat) (h : pos < s.size) : itemsF s (f + 1) pos = Utf8.decode s pos :: itemsF s f (pos + (Utf8.decode s pos).2) := by simp [itemsF, h]
theorem itemsF_fuel (s : ByteArray) : ∀ f g pos, s.size - pos ≤ f → s.size - pos ≤ g → itemsF s f pos = itemsF s g pos
  | 0, g, pos, hf, _ => by rw [itemsF_end s 0 pos (by omega), itemsF_end s g pos (by omega)]
  | f + 1, g, pos, hf, hg => by
    by_cases h : pos < s.size
    · obtain ⟨g, rfl⟩ : ∃ k, g = k + 1 := ⟨g - 1, by omega⟩
      have := width_pos s pos h
      rw [itemsF_step s f pos h, itemsF_step s g pos h, itemsF_fuel s f g _ (by omega) (by omega)]
    · rw [itemsF_end s _ pos h, itemsF_end s _ pos h]

/-- Each scalar has a width of one at least. -/
def Wide (l : List (Nat × Nat)) : Prop := ∀ x ∈ l, 1 ≤ x.2
theorem itemsF_wide (s : ByteArray) : ∀ f pos, Wide (itemsF s f pos)
  | 0, _ => by intro x hx; cases hx
  | f + 1, pos => by
    intro x hx
    by_cases h : pos < s.size
    · rw [itemsF_step s f pos h] at hx
      rcases List.mem_cons.1 hx with rfl | hx
      · exact width_pos s pos h
      · exact itemsF_wide s f _ x hx
    · rw [itemsF_end s _ pos h] at hx; cases hx

def sumW : List (Nat × Nat) → Nat
  | [] => 0
  | x :: t => x.2 + sumW t
def sumU : List (Nat × Nat) → Nat
  | [] => 0
  | x :: t => uw x.1 + sumU t
theorem sumU_le : ∀ l : List (Nat × Nat), Wide l → sumU l ≤ 2 * sumW l
  | [], _ => by simp [sumU, sumW]
  | x :: t, h => by
    have h1 := h x (by simp)
    have h2 := sumU_le t (fun y hy => h y (by simp [hy]))
    have := uw_le x.1
    simp only [sumU, sumW]; omega
theorem sumW_itemsF (s : ByteArray) : ∀ f pos, s.size - pos ≤ f → pos ≤ s.size → sumW (itemsF s f pos) = s.size - pos
  | 0, pos, hf, hp => by simp only [itemsF, sumW]; omega
  | f + 1, pos, hf, hp => by
    by_cases h : pos < s.size
    · have h1 := width_pos s pos h
      have h2 := width_le s pos h
      rw [itemsF_step s f pos h]; simp only [sumW]
      rw [sumW_itemsF s f _ (by omega) h2]; omega
    · rw [itemsF_end s _ pos h]; simp only [sumW]; omega
theorem sumW_items (s : ByteArray) : sumW (items s) = s.size := by unfold items; rw [sumW_itemsF s s.size 0 (by omega) (by omega)]; omega
theorem sumU_items (s : ByteArray) : sumU (items s) ≤ 2 * s.size := by rw [← sumW_items s]; exact sumU_le _ (itemsF_wide s _ _)

/-! ### Right -/
theorem decodeL_drop (s : ByteArray) (pos : Nat) : decodeL (s.data.toList.drop pos) = Utf8.decode s pos := by
  have h := tail_decode s pos 0
  rw [Nat.add_zero] at h
  rw [← h]
  unfold decodeL
  rw [← ext_list s pos]
theorem validGo_ok (s : ByteArray) : ∀ n pos, validGoD n (s.data.toList.drop pos) = okL (itemsF s n pos)
  | 0, _ => rfl
  | n + 1, pos => by
    unfold validGoD
    by_cases h : pos < s.size
    · have hne : ¬ s.data.toList.drop pos = [] := by
        intro e
        have := congrArg List.length e
        simp at this
        have h2 : s.data.size = s.size := rfl
        omega
      rw [if_neg hne, itemsF_step s n pos h, decodeL_drop]
      simp only [okL]
      split
      · rfl
      · rw [List.drop_drop, validGo_ok s n]
    · have he : s.data.toList.drop pos = [] := by
        apply List.drop_eq_nil_of_le
        have h2 : s.data.size = s.size := rfl
        simp; omega
      rw [if_pos he, itemsF_end s _ pos h]; rfl
theorem valid_ok (s : ByteArray) : validD s.data.toList = okB s := by
  unfold validD okB items
  have h := validGo_ok s s.size 0
  rw [List.drop_zero] at h
  have h2 : s.data.toList.length = s.size := by simp
  rw [h2, h]

/-! ### Places -/
def off : List (Nat × Nat) → Nat → Nat → Int → Int × Int
  | [], pos, ahead, unit => if (ahead : Int) = unit then ((pos : Int), 0) else (0, 12)
  | x :: t, pos, ahead, unit => if (ahead : Int) = unit then ((pos : Int), 0) else off t (pos + x.2) (ahead + uw x.1) unit
def uni : List (Nat × Nat) → Nat → Nat → Int → Int × Int
  | [], pos, ahead, at' => if (pos : Int) = at' then ((ahead : Int), 0) else (0, 12)
  | x :: t, pos, ahead, at' => if (pos : Int) = at' then ((ahead : Int), 0) else uni t (pos + x.2) (ahead + uw x.1) at'
def cutE : List (Nat × Nat) → Nat → Int → Nat → Nat
  | [], _, _, e => e
  | x :: t, pos, most, e => if most < (pos : Int) then e else cutE t (pos + x.2) most pos

/-- What the calls answer. -/
def offB (s : ByteArray) (unit : Int) : Int × Int := if okB s then off (items s) 0 0 unit else (0, 11)
def uniB (s : ByteArray) (at' : Int) : Int × Int := if okB s then uni (items s) 0 0 at' else (0, 11)
def cutB (s : ByteArray) (most : Int) : ByteArray :=
  if okB s then (if (s.size : Int) ≤ most then s else s.extract 0 (cutE (items s) 0 most 0)) else ⟨#[]⟩
def unitsL : List ByteArray → Nat → Int × Int
  | [], acc => ((acc : Int), 0)
  | s :: t, acc => if okB s then unitsL t (acc + sumU (items s)) else (0, 11)

def bytes : List ByteArray → Nat
  | [] => 0
  | s :: t => s.size + bytes t
theorem bytes_mem : ∀ (l : List ByteArray) (s : ByteArray), s ∈ l → s.size ≤ bytes l
  | [], s, h => by cases h
  | x :: t, s, h => by
    simp only [bytes]
    rcases List.mem_cons.1 h with rfl | h
    · omega
    · have := bytes_mem t s h; omega
theorem drop_at (l : List ByteArray) (i : Nat) (h : i < l.length) : l.drop i = l.getD i ByteArray.empty :: l.drop (i + 1) := by
  rw [List.getD_eq_getElem?_getD, List.getElem?_eq_getElem h, Option.getD_some]
  exact List.drop_eq_getElem_cons h
theorem getD_mem (l : List ByteArray) (i : Nat) (h : i < l.length) : l.getD i ByteArray.empty ∈ l := by
  rw [List.getD_eq_getElem?_getD, List.getElem?_eq_getElem h, Option.getD_some]
  exact List.getElem_mem h
theorem unitsL_step (l : List ByteArray) (i acc : Nat) (h : i < l.length) (hok : okB (l.getD i ByteArray.empty) = true) :
    unitsL (l.drop i) acc = unitsL (l.drop (i + 1)) (acc + sumU (items (l.getD i ByteArray.empty))) := by
  rw [drop_at l i h]; simp only [unitsL]; rw [if_pos hok]
theorem unitsL_wrong (l : List ByteArray) (i acc : Nat) (h : i < l.length) (hok : okB (l.getD i ByteArray.empty) = false) : unitsL (l.drop i) acc = (0, 11) := by
  rw [drop_at l i h]; simp only [unitsL]; rw [if_neg (by rw [hok]; simp)]
theorem unitsL_done (l : List ByteArray) (i acc : Nat) (h : ¬ i < l.length) : unitsL (l.drop i) acc = ((acc : Int), 0) := by
  rw [List.drop_eq_nil_of_le (by omega)]; rfl
theorem bytes_step (l : List ByteArray) (i : Nat) (h : i < l.length) : bytes (l.drop i) = (l.getD i ByteArray.empty).size + bytes (l.drop (i + 1)) := by
  rw [drop_at l i h]; rfl
theorem off_hit (l : List (Nat × Nat)) (pos ahead : Nat) (unit : Int) (h : (ahead : Int) = unit) : off l pos ahead unit = ((pos : Int), 0) := by
  cases l <;> simp only [off] <;> rw [if_pos h]
theorem off_miss (s : ByteArray) (f pos ahead : Nat) (unit : Int) (hp : pos < s.size) (h : ¬ (ahead : Int) = unit) :
    off (itemsF s (f + 1) pos) pos ahead unit = off (itemsF s f (pos + (Utf8.decode s pos).2)) (pos + (Utf8.decode s pos).2) (ahead + uw (Utf8.decode s pos).1) unit := by
  rw [itemsF_step s f pos hp]; simp only [off]; rw [if_neg h]
theorem off_done (s : ByteArray) (f pos ahead : Nat) (unit : Int) (hp : ¬ pos < s.size) (h : ¬ (ahead : Int) = unit) : off (itemsF s f pos) pos ahead unit = (0, 12) := by
  rw [itemsF_end s f pos hp]; simp only [off]; rw [if_neg h]
theorem uni_hit (l : List (Nat × Nat)) (pos ahead : Nat) (a : Int) (h : (pos : Int) = a) : uni l pos ahead a = ((ahead : Int), 0) := by
  cases l <;> simp only [uni] <;> rw [if_pos h]
theorem uni_miss (s : ByteArray) (f pos ahead : Nat) (a : Int) (hp : pos < s.size) (h : ¬ (pos : Int) = a) :
    uni (itemsF s (f + 1) pos) pos ahead a = uni (itemsF s f (pos + (Utf8.decode s pos).2)) (pos + (Utf8.decode s pos).2) (ahead + uw (Utf8.decode s pos).1) a := by
  rw [itemsF_step s f pos hp]; simp only [uni]; rw [if_neg h]
theorem uni_done (s : ByteArray) (f pos ahead : Nat) (a : Int) (hp : ¬ pos < s.size) (h : ¬ (pos : Int) = a) : uni (itemsF s f pos) pos ahead a = (0, 12) := by
  rw [itemsF_end s f pos hp]; simp only [uni]; rw [if_neg h]
theorem cut_stop (s : ByteArray) (f pos e : Nat) (most : Int) (hp : pos < s.size) (h : most < (pos : Int)) : cutE (itemsF s (f + 1) pos) pos most e = e := by
  rw [itemsF_step s f pos hp]; simp only [cutE]; rw [if_pos h]
theorem cut_on (s : ByteArray) (f pos e : Nat) (most : Int) (hp : pos < s.size) (h : ¬ most < (pos : Int)) :
    cutE (itemsF s (f + 1) pos) pos most e = cutE (itemsF s f (pos + (Utf8.decode s pos).2)) (pos + (Utf8.decode s pos).2) most pos := by
  rw [itemsF_step s f pos hp]; simp only [cutE]; rw [if_neg h]
theorem cut_done (s : ByteArray) (f pos e : Nat) (most : Int) (hp : ¬ pos < s.size) : cutE (itemsF s f pos) pos most e = e := by
  rw [itemsF_end s f pos hp]; rfl
theorem sumU_step (s : ByteArray) (f pos : Nat) (hp : pos < s.size) : sumU (itemsF s (f + 1) pos) = uw (Utf8.decode s pos).1 + sumU (itemsF s f (pos + (Utf8.decode s pos).2)) := by
  rw [itemsF_step s f pos hp]; rfl
theorem sumU_done (s : ByteArray) (f pos : Nat) (hp : ¬ pos < s.size) : sumU (itemsF s f pos) = 0 := by rw [itemsF_end s f pos hp]; rfl
theorem off_low : ∀ (l : List (Nat × Nat)) (pos ahead : Nat) (unit : Int), unit < ahead → off l pos ahead unit = (0, 12)
  | [], pos, ahead, unit, h => by simp only [off]; rw [if_neg (by omega)]
  | x :: t, pos, ahead, unit, h => by
    simp only [off]; rw [if_neg (by omega)]
    exact off_low t _ _ unit (by have := uw_pos x.1; omega)
theorem off_high : ∀ (l : List (Nat × Nat)) (pos ahead : Nat) (unit : Int), ((ahead + sumU l : Nat) : Int) < unit → off l pos ahead unit = (0, 12)
  | [], pos, ahead, unit, h => by simp only [off, sumU] at *; rw [if_neg (by omega)]
  | x :: t, pos, ahead, unit, h => by
    simp only [sumU] at h
    simp only [off]; rw [if_neg (by omega)]
    exact off_high t _ _ unit (by omega)

/-- THERE: the place of a unit that has one: it is there again, with so many units ahead, and a longest beginning ends there. -/
theorem off_there : ∀ (l : List (Nat × Nat)) (pos ahead : Nat) (unit a : Int), Wide l → off l pos ahead unit = (a, 0) →
    (pos : Int) ≤ a ∧ a ≤ ((pos + sumW l : Nat) : Int) ∧ (ahead : Int) ≤ unit ∧ unit ≤ ((ahead + sumU l : Nat) : Int) ∧ uni l pos ahead a = (unit, 0) ∧
      (unit = ((ahead + sumU l : Nat) : Int) ↔ a = ((pos + sumW l : Nat) : Int))
  | [], pos, ahead, unit, a, _, h => by
    simp only [off, sumW, sumU, uni] at *
    split at h
    · rename_i hu
      simp only [Prod.mk.injEq, and_true] at h
      subst hu; subst h
      refine ⟨by omega, by omega, by omega, by omega, by simp, by omega⟩
    · simp at h
  | x :: t, pos, ahead, unit, a, hw, h => by
    have hx := hw x (by simp)
    have hux := uw_pos x.1
    simp only [off] at h
    split at h
    · rename_i hu
      simp only [Prod.mk.injEq, and_true] at h
      subst hu; subst h
      simp only [sumW, sumU, uni]
      refine ⟨by omega, by omega, by omega, by omega, by simp, ?_⟩
      constructor
      · intro he; omega
      · intro he; omega
    · rename_i hu
      obtain ⟨h1, h2, h3, h4, h5, h6⟩ := off_there t _ _ unit a (fun y hy => hw y (by simp [hy])) h
      simp only [sumW, sumU, uni]
      refine ⟨by omega, by omega, by omega, by omega, ?_, ?_⟩
      · rw [if_neg (by omega)]; exact h5
      · constructor
        · intro he; have := h6.1 (by omega); omega
        · intro he; have := h6.2 (by omega); omega
theorem off_cut : ∀ (l : List (Nat × Nat)) (pos ahead e : Nat) (unit a : Int), Wide l → off l pos ahead unit = (a, 0) → a < ((pos + sumW l : Nat) : Int) →
    ((cutE l pos a e : Nat) : Int) = a
  | [], pos, ahead, e, unit, a, _, h, hlt => by
    simp only [off, sumW] at *
    split at h
    · simp only [Prod.mk.injEq, and_true] at h; omega
    · simp at h
  | x :: t, pos, ahead, e, unit, a, hw, h, hlt => by
    have hx := hw x (by simp)
    simp only [sumW] at hlt
    simp only [off] at h
    split at h
    · rename_i hu
      simp only [Prod.mk.injEq, and_true] at h
      subst h
      simp only [cutE]
      rw [if_neg (by omega)]
      cases t with
      | nil => rfl
      | cons y t => simp only [cutE]; rw [if_pos (by omega)]
    · rename_i hu
      have h1 := (off_there t _ _ unit a (fun y hy => hw y (by simp [hy])) h).1
      simp only [cutE]
      rw [if_neg (by omega)]
      exact off_cut t _ _ pos unit a (fun y hy => hw y (by simp [hy])) h (by omega)
theorem off_or : ∀ (l : List (Nat × Nat)) (pos ahead : Nat) (unit : Int), (off l pos ahead unit = (0, 12)) ∨ ∃ a, off l pos ahead unit = (a, 0)
  | [], pos, ahead, unit => by
    simp only [off]; split
    · exact .inr ⟨_, rfl⟩
    · exact .inl rfl
  | x :: t, pos, ahead, unit => by
    simp only [off]; split
    · exact .inr ⟨_, rfl⟩
    · exact off_or t _ _ unit
/-- A unit within that has no place: the one ahead of it has one. -/
theorem off_gap : ∀ (l : List (Nat × Nat)) (pos ahead : Nat) (unit : Int), (ahead : Int) ≤ unit → unit ≤ ((ahead + sumU l : Nat) : Int) → off l pos ahead unit = (0, 12) → ∃ a, off l pos ahead (unit - 1) = (a, 0)
  | [], pos, ahead, unit, h1, h2, h => by
    simp only [off, sumU] at *
    rw [if_pos (by omega)] at h
    simp at h
  | x :: t, pos, ahead, unit, h1, h2, h => by
    have hu := uw_le x.1
    simp only [sumU] at h2
    simp only [off] at h ⊢
    split at h
    · simp at h
    · rename_i hne
      split
      · exact ⟨_, rfl⟩
      · rename_i hne2
        exact off_gap t _ _ unit (by omega) (by omega) h

/-! ### Joined -/
theorem size_append (a b : ByteArray) : (a ++ b).size = a.size + b.size := by simp [ByteArray.size_append]
theorem get!_left (a b : ByteArray) (i : Nat) (h : i < a.size) : (a ++ b).get! i = a.get! i := by
  rw [← getD_get!', ← getD_get!']
  have : (a ++ b).data.toList = a.data.toList ++ b.data.toList := by simp [ByteArray.data_append]
  rw [this, List.getD_eq_getElem?_getD, List.getD_eq_getElem?_getD, List.getElem?_append_left (by simpa using h)]
theorem get!_right (a b : ByteArray) (i : Nat) : (a ++ b).get! (a.size + i) = b.get! i := by
  rw [← getD_get!', ← getD_get!']
  have : (a ++ b).data.toList = a.data.toList ++ b.data.toList := by simp [ByteArray.data_append]
  have h2 : a.data.toList.length = a.size := by simp
  rw [this, List.getD_eq_getElem?_getD, List.getD_eq_getElem?_getD, List.getElem?_append_right (by omega), h2, Nat.add_sub_cancel_left]
theorem decode_right (a b : ByteArray) (pos : Nat) : Utf8.decode (a ++ b) (a.size + pos) = Utf8.decode b pos := by
  rw [decode_at, decode_at, size_append, get!_right, Nat.add_assoc, get!_right, Nat.add_assoc, get!_right, Nat.add_assoc, get!_right]
  congr 1
  omega
theorem decodeN_more (n k b0 b1 b2 b3 c1 c2 c3 : Nat) (h1 : 1 < n → c1 = b1) (h2 : 2 < n → c2 = b2) (h3 : 3 < n → c3 = b3)
    (hok : ¬ ((decodeN n b0 b1 b2 b3).1 = 65533 ∧ (decodeN n b0 b1 b2 b3).2 = 1)) : decodeN (n + k) b0 c1 c2 c3 = decodeN n b0 b1 b2 b3 := by
  unfold decodeN at hok ⊢
  by_cases c0 : b0 < 128
  · simp [c0]
  · rw [if_neg c0] at hok ⊢
    rw [if_neg c0]
    by_cases q1 : b0 / 32 = 6 ∧ (1 < n ∧ b1 / 64 = 2)
    · have e1 := h1 q1.2.1
      subst e1
      rw [if_pos q1, if_pos ⟨q1.1, by omega, q1.2.2⟩]
    · rw [if_neg q1] at hok ⊢
      by_cases q2 : b0 / 16 = 14 ∧ (1 < n ∧ b1 / 64 = 2) ∧ (2 < n ∧ b2 / 64 = 2)
      · have e1 := h1 q2.2.1.1
        have e2 := h2 q2.2.2.1
        subst e1; subst e2
        rw [if_pos q2, if_neg (by omega), if_pos ⟨q2.1, ⟨by omega, q2.2.1.2⟩, by omega, q2.2.2.2⟩]
      · rw [if_neg q2] at hok ⊢
        by_cases q3 : b0 / 8 = 30 ∧ (1 < n ∧ b1 / 64 = 2) ∧ (2 < n ∧ b2 / 64 = 2) ∧ (3 < n ∧ b3 / 64 = 2)
        · have e1 := h1 q3.2.1.1
          have e2 := h2 q3.2.2.1.1
          have e3 := h3 q3.2.2.2.1
          subst e1; subst e2; subst e3
          rw [if_pos q3, if_neg (by omega), if_neg (by omega), if_pos ⟨q3.1, ⟨by omega, q3.2.1.2⟩, ⟨by omega, q3.2.2.1.2⟩, by omega, q3.2.2.2.2⟩]
        · rw [if_neg q3] at hok
          simp at hok
theorem decode_left (a b : ByteArray) (pos : Nat) (h : pos < a.size) (hok : ¬ ((Utf8.decode a pos).1 = 65533 ∧ (Utf8.decode a pos).2 = 1)) : Utf8.decode (a ++ b) pos = Utf8.decode a pos := by
  rw [decode_at] at hok
  rw [decode_at, decode_at, get!_left a b pos h, size_append]
  have e : a.size + b.size - pos = (a.size - pos) + b.size := by omega
  rw [e]
  refine decodeN_more _ _ _ _ _ _ _ _ _ (fun h1 => ?_) (fun h1 => ?_) (fun h1 => ?_) hok
  · rw [get!_left a b _ (by omega)]
  · rw [get!_left a b _ (by omega)]
  · rw [get!_left a b _ (by omega)]
theorem itemsF_right (a b : ByteArray) : ∀ f pos, itemsF (a ++ b) f (a.size + pos) = itemsF b f pos
  | 0, _ => rfl
  | f + 1, pos => by
    by_cases h : pos < b.size
    · rw [itemsF_step _ f _ (by rw [size_append]; omega), itemsF_step b f pos h, decode_right, Nat.add_assoc, itemsF_right a b f]
    · rw [itemsF_end _ _ _ (by rw [size_append]; omega), itemsF_end b _ pos h]
theorem itemsF_left (a b : ByteArray) : ∀ f pos, a.size - pos ≤ f → pos ≤ a.size → okL (itemsF a f pos) = true →
    itemsF (a ++ b) (f + b.size) pos = itemsF a f pos ++ items b
  | 0, pos, hf, hp, _ => by
    obtain rfl : pos = a.size := by omega
    rw [Nat.zero_add]
    have := itemsF_right a b b.size 0
    rw [Nat.add_zero] at this
    rw [this]; rfl
  | f + 1, pos, hf, hp, hok => by
    by_cases h : pos < a.size
    · rw [itemsF_step a f pos h] at hok ⊢
      simp only [okL] at hok
      split at hok
      · cases hok
      · rename_i hne
        have hl := decode_left a b pos h hne
        have e : f + 1 + b.size = (f + b.size) + 1 := by omega
        have hw := width_pos a pos h
        rw [e, itemsF_step _ _ pos (by rw [size_append]; omega), hl, itemsF_left a b f _ (by omega) (width_le a pos h) hok]
        rfl
    · obtain rfl : pos = a.size := by omega
      rw [itemsF_end a _ _ h]
      have hr := itemsF_right a b (f + 1 + b.size) 0
      rw [Nat.add_zero a.size] at hr
      rw [hr, List.nil_append]
      exact itemsF_fuel b _ _ 0 (by omega) (by omega)
theorem items_append (a b : ByteArray) (h : okB a = true) : items (a ++ b) = items a ++ items b := by
  have := itemsF_left a b a.size 0 (by omega) (by omega) h
  unfold items
  rw [size_append]
  exact this
theorem okL_append : ∀ x y : List (Nat × Nat), okL (x ++ y) = (okL x && okL y)
  | [], y => by simp [okL]
  | x :: t, y => by
    simp only [List.cons_append, okL]
    split
    · rfl
    · exact okL_append t y
theorem okB_append (a b : ByteArray) (ha : okB a = true) (hb : okB b = true) : okB (a ++ b) = true := by
  unfold okB at *
  rw [items_append a b ha, okL_append, ha, hb]; rfl
theorem sumU_append : ∀ x y : List (Nat × Nat), sumU (x ++ y) = sumU x + sumU y
  | [], y => by simp [sumU]
  | x :: t, y => by simp only [List.cons_append, sumU, sumU_append t y]; omega
theorem sumW_append : ∀ x y : List (Nat × Nat), sumW (x ++ y) = sumW x + sumW y
  | [], y => by simp [sumW]
  | x :: t, y => by simp only [List.cons_append, sumW, sumW_append t y]; omega
/-- The place of a unit of the second of two lists. -/
theorem off_append : ∀ (x y : List (Nat × Nat)) (pos ahead : Nat) (u : Nat), off (x ++ y) pos ahead ((ahead + sumU x + u : Nat) : Int) = off y (pos + sumW x) (ahead + sumU x) ((ahead + sumU x + u : Nat) : Int)
  | [], y, pos, ahead, u => by simp [sumU, sumW]
  | x :: t, y, pos, ahead, u => by
    have hu := uw_pos x.1
    simp only [List.cons_append, off, sumU, sumW]
    rw [if_neg (by omega)]
    have := off_append t y (pos + x.2) (ahead + uw x.1) u
    have e1 : ahead + uw x.1 + sumU t + u = ahead + (uw x.1 + sumU t) + u := by omega
    have e2 : ahead + uw x.1 + sumU t = ahead + (uw x.1 + sumU t) := by omega
    have e3 : pos + x.2 + sumW t = pos + (x.2 + sumW t) := by omega
    rw [e1, e2, e3] at this
    exact this
/-- Moved places. -/
theorem off_moved : ∀ (l : List (Nat × Nat)) (pos ahead p k : Nat) (unit : Int), (∃ a, off l pos ahead unit = (a, 0) ∧ off l (pos + p) (ahead + k) (unit + k) = (a + p, 0)) ∨ (off l pos ahead unit = (0, 12) ∧ off l (pos + p) (ahead + k) (unit + k) = (0, 12))
  | [], pos, ahead, p, k, unit => by
    simp only [off]
    by_cases h : (ahead : Int) = unit
    · rw [if_pos h, if_pos (by omega)]
      exact .inl ⟨_, rfl, by simp⟩
    · rw [if_neg h, if_neg (by omega)]
      exact .inr ⟨rfl, rfl⟩
  | x :: t, pos, ahead, p, k, unit => by
    simp only [off]
    by_cases h : (ahead : Int) = unit
    · rw [if_pos h, if_pos (by omega)]
      exact .inl ⟨_, rfl, by simp⟩
    · rw [if_neg h, if_neg (by omega)]
      have e1 : pos + p + x.2 = pos + x.2 + p := by omega
      have e2 : ahead + k + uw x.1 = ahead + uw x.1 + k := by omega
      rw [e1, e2]
      exact off_moved t _ _ p k unit
end Go.Proofs.YtnjhmjkonmmomaaDoor.U
end
/- SPlain: Plain facts about programs' words: what a scanner tells of a list of bytes; that words rise and have their text; that what their brief tells is scanned to as many, of the same kinds and texts; that the words of two programs with a byte 10 between are those of the one and of the other. It imports nothing of the program. -/
section
namespace Go.Proofs.YtnjhmjkonmmomaaDoor.S
open Go.Lib Go.Proofs.YtnjhmjkonmmomaaDoor.U

abbrev By := List UInt8
def lett (c : UInt8) : Bool := decide (97 ≤ c ∧ c ≤ 122) || decide (65 ≤ c ∧ c ≤ 90) || decide (c = 95)
def figu (c : UInt8) : Bool := decide (48 ≤ c ∧ c ≤ 57)
def nmc (c : UInt8) : Bool := lett c || figu c
/-- How many bytes a name has that comes. -/
def nameLen : By → Nat
  | [] => 0
  | c :: r => if lett c then 1 + (r.takeWhile nmc).length else 0
def numLen (l : By) : Nat := (l.takeWhile figu).length
def quoTail : By → Option Nat
  | [] => none
  | c :: r => if c = 10 then none else if c = 34 then some 1 else (quoTail r).map (· + 1)
def quoLen : By → Nat
  | [] => 0
  | c :: r => if c = 34 then (match quoTail r with | none => 0 | some n => n + 1) else 0
def two : By → Bool
  | a :: b :: _ => (a == 58 && b == 61) || (a == 61 && b == 61) || (a == 33 && b == 61) || (a == 60 && b == 61) || (a == 62 && b == 61) || (a == 38 && b == 38) || (a == 124 && b == 124)
  | _ => false
/-- How many bytes the first scalar has. -/
def wid (l : By) : Nat := (Utf8.decode ⟨l.toArray⟩ 0).2
def markLen (right : Bool) (l : By) : Nat := if two l then 2 else if right then wid l else 1
def keyB (x : By) : Bool := x == [102, 117, 110, 99] || x == [118, 97, 114] || x == [116, 121, 112, 101] || x == [115, 116, 114, 117, 99, 116] || x == [114, 101, 116, 117, 114, 110] || x == [105, 102] || x == [101, 108, 115, 101] || x == [102, 111, 114]
/-- The word that comes: its kind, how many bytes it has. -/
def wordL (right : Bool) (l : By) : Int × Nat :=
  if 0 < nameLen l then (if keyB (l.take (nameLen l)) then 3 else 0, nameLen l)
  else if 0 < numLen l then (1, numLen l)
  else if 0 < quoLen l then (2, quoLen l)
  else if l.head? = some 59 then (5, 1) else (4, markLen right l)
def cmtLen : By → Nat
  | a :: b :: r => if a = 47 ∧ b = 47 then 2 + (r.takeWhile (fun c => decide (c ≠ 10))).length else 0
  | _ => 0
/-- May a statement end behind a word? -/
def endsP (w : Int) (x : By) : Bool :=
  decide (w = 0 ∨ w = 1 ∨ w = 2) || (decide (w = 3) && x == [114, 101, 116, 117, 114, 110]) || (decide (w = 4) && (x == [41] || x == [93] || x == [125]))
def blank (c : UInt8) : Bool := c == 32 || c == 9 || c == 13 || c == 10
structure TokP where
  w : Int
  t : By
  f : Int
  e : Int
def scanF (right : Bool) : Nat → By → Nat → Bool → List TokP
  | 0, _, _, _ => []
  | _ + 1, [], pos, ended => if ended then [⟨5, [], pos, pos⟩] else []
  | n + 1, c :: r, pos, ended =>
    if c = 10 ∧ ended = true then ⟨5, [], pos, ((pos + 1 : Nat) : Int)⟩ :: scanF right n r (pos + 1) false
    else if blank c = true then scanF right n r (pos + 1) ended
    else if 0 < cmtLen (c :: r) then scanF right n ((c :: r).drop (cmtLen (c :: r))) (pos + cmtLen (c :: r)) ended
    else ⟨(wordL right (c :: r)).1, (c :: r).take (wordL right (c :: r)).2, pos, ((pos + (wordL right (c :: r)).2 : Nat) : Int)⟩ ::
      scanF right n ((c :: r).drop (wordL right (c :: r)).2) (pos + (wordL right (c :: r)).2) (endsP (wordL right (c :: r)).1 ((c :: r).take (wordL right (c :: r)).2))
def scanB (right : Bool) (l : By) : List TokP := scanF right (l.length + 1) l 0 false

/-! ### How long words are -/
theorem wid_bounds {l : By} (h : l ≠ []) : 1 ≤ wid l ∧ wid l ≤ l.length := by
  have hz : (⟨l.toArray⟩ : ByteArray).size = l.length := by simp [ByteArray.size]
  have h0 : 0 < (⟨l.toArray⟩ : ByteArray).size := by
    rw [hz]
    cases l with
    | nil => exact absurd rfl h
    | cons a r => simp
  have h1 := width_pos _ 0 h0
  have h2 := width_le _ 0 h0
  unfold wid
  omega
theorem two_len {l : By} (h : two l = true) : 2 ≤ l.length := by
  match l with
  | [] => simp [two] at h
  | [a] => simp [two] at h
  | a :: b :: r => simp
theorem mark_bounds (right : Bool) {l : By} (h : l ≠ []) : 1 ≤ markLen right l ∧ markLen right l ≤ l.length := by
  unfold markLen
  split
  · rename_i h2; exact ⟨by omega, two_len h2⟩
  · split
    · exact wid_bounds h
    · exact ⟨by omega, by cases l with
        | nil => exact absurd rfl h
        | cons a r => simp⟩
theorem tw_le {α : Type} (p : α → Bool) (l : List α) : (l.takeWhile p).length ≤ l.length := (List.takeWhile_sublist p).length_le
theorem name_le (l : By) : nameLen l ≤ l.length := by
  cases l with
  | nil => simp [nameLen]
  | cons c r => simp only [nameLen, List.length_cons]; have := tw_le nmc r; split <;> omega
theorem quoTail_le : ∀ (l : By) (n : Nat), quoTail l = some n → 1 ≤ n ∧ n ≤ l.length
  | [], n, h => by simp [quoTail] at h
  | c :: r, n, h => by
    simp only [quoTail] at h
    split at h
    · cases h
    · split at h
      · cases h; simp
      · cases hq : quoTail r with
        | none => rw [hq] at h; cases h
        | some m =>
          rw [hq] at h
          have := quoTail_le r m hq
          simp only [Option.map_some, Option.some.injEq] at h
          simp only [List.length_cons]
          omega
theorem quo_le (l : By) : quoLen l ≤ l.length := by
  cases l with
  | nil => simp [quoLen]
  | cons c r =>
    simp only [quoLen, List.length_cons]
    split
    · cases hq : quoTail r with
      | none => simp
      | some n => have := quoTail_le r n hq; simp only; omega
    · omega
theorem word_bounds (right : Bool) {l : By} (h : l ≠ []) : 1 ≤ (wordL right l).2 ∧ (wordL right l).2 ≤ l.length := by
  unfold wordL
  split
  · rename_i h1; exact ⟨h1, name_le l⟩
  · split
    · rename_i h1; exact ⟨h1, tw_le _ _⟩
    · split
      · rename_i h1; exact ⟨h1, quo_le l⟩
      · split
        · exact ⟨Nat.le_refl _, by cases l with
            | nil => exact absurd rfl h
            | cons a r => simp⟩
        · exact mark_bounds right h
theorem cmt_le (l : By) : cmtLen l ≤ l.length := by
  match l with
  | [] => simp [cmtLen]
  | [a] => simp [cmtLen]
  | a :: b :: r =>
    simp only [cmtLen, List.length_cons]
    have := tw_le (fun c : UInt8 => decide (c ≠ 10)) r
    split <;> omega

/-! ### Fuel, and places -/
theorem scanF_fuel (right : Bool) : ∀ (n m : Nat) (l : By) (pos : Nat) (ended : Bool), l.length < n → l.length < m → scanF right n l pos ended = scanF right m l pos ended
  | 0, _, _, _, _, h, _ => by omega
  | _ + 1, 0, _, _, _, _, h => by omega
  | n + 1, m + 1, [], pos, ended, _, _ => rfl
  | n + 1, m + 1, c :: r, pos, ended, hn, hm => by
    have hr : r.length < n ∧ r.length < m := by simp only [List.length_cons] at hn hm; omega
    have hc := cmt_le (c :: r)
    have hw := word_bounds right (l := c :: r) (by simp)
    have hd : ∀ k, 1 ≤ k → ((c :: r).drop k).length < n ∧ ((c :: r).drop k).length < m := fun k hk => by
      rw [List.length_drop]; simp only [List.length_cons] at hn hm ⊢; omega
    simp only [scanF]
    split
    · rw [scanF_fuel right n m r _ _ hr.1 hr.2]
    · split
      · exact scanF_fuel right n m r _ _ hr.1 hr.2
      · split
        · rename_i hk
          exact scanF_fuel right n m _ _ _ (hd _ hk).1 (hd _ hk).2
        · rw [scanF_fuel right n m _ _ _ (hd _ hw.1).1 (hd _ hw.1).2]
def shiftT (k : Nat) (t : TokP) : TokP := ⟨t.w, t.t, t.f + k, t.e + k⟩
theorem scanF_shift (right : Bool) (k : Nat) : ∀ (n : Nat) (l : By) (pos : Nat) (ended : Bool), scanF right n l (pos + k) ended = (scanF right n l pos ended).map (shiftT k)
  | 0, _, _, _ => rfl
  | n + 1, [], pos, ended => by
    simp only [scanF]
    split
    · simp [shiftT]
    · rfl
  | n + 1, c :: r, pos, ended => by
    simp only [scanF]
    split
    · rw [show pos + k + 1 = (pos + 1) + k by omega, scanF_shift right k n r (pos + 1) false]
      simp only [List.map_cons, shiftT]
      congr 2 <;> omega
    · split
      · rw [show pos + k + 1 = (pos + 1) + k by omega, scanF_shift right k n r (pos + 1) ended]
      · split
        · rw [show pos + k + cmtLen (c :: r) = (pos + cmtLen (c :: r)) + k by omega, scanF_shift right k n _ _ ended]
        · rw [show pos + k + (wordL right (c :: r)).2 = (pos + (wordL right (c :: r)).2) + k by omega, scanF_shift right k n _ _ _]
          simp only [List.map_cons, shiftT]
          congr 2 <;> omega

/-! ### In order -/
/-- Between two words stand blanks, bytes 10 and comments alone: what a word has behind the one ahead. -/
def Gap (s : By) (a b : Nat) : Prop := ∀ k, a ≤ k → k < b → (∃ j, a ≤ j ∧ j ≤ k ∧ s[j]? = some 47) ∨ ∃ c, s[k]? = some c ∧ blank c = true
/-- A word behind a place, with its text. -/
structure TokIn (s : By) (a : Nat) (t : TokP) (f e : Nat) : Prop where
  from_ : t.f = (f : Int)
  to : t.e = (e : Int)
  le : a ≤ f
  fe : f ≤ e
  end_ : e ≤ s.length
  gap : Gap s a f
  text : (t.w = 5 ∧ t.t = [] ∧ (s[f]? = some 10 ∨ f = s.length)) ∨ (t.t ≠ [] ∧ t.t = (s.drop f).take (e - f))
inductive Rises (s : By) : Nat → List TokP → Prop
  | nil (a : Nat) : Rises s a []
  | cons {a : Nat} {t : TokP} {f e : Nat} {r : List TokP} (h : TokIn s a t f e) (hl : (t.t = [] ∧ f = s.length) → r = []) (hr : Rises s e r) : Rises s a (t :: r)
theorem gap_nil (s : By) (a : Nat) : Gap s a a := fun k h1 h2 => by omega
theorem gap_blank {s : By} {a b : Nat} {c : UInt8} (h : Gap s a b) (hc : s[b]? = some c) (hb : blank c = true) : Gap s a (b + 1) := fun k h1 h2 => by
  by_cases hk : k < b
  · exact h k h1 hk
  · obtain rfl : k = b := by omega
    exact .inr ⟨c, hc, hb⟩
theorem gap_slash {s : By} {a b m : Nat} (h : Gap s a b) (hab : a ≤ b) (hc : s[b]? = some 47) : Gap s a (b + m) := fun k h1 h2 => by
  by_cases hk : k < b
  · exact h k h1 hk
  · exact .inl ⟨b, hab, by omega, hc⟩
theorem drop_cons {s : By} {p : Nat} {c : UInt8} {r : By} (h : s.drop p = c :: r) : s[p]? = some c ∧ p < s.length ∧ s.drop (p + 1) = r := by
  have hp : p < s.length := by
    by_cases hp : p < s.length
    · exact hp
    · rw [List.drop_of_length_le (by omega)] at h; cases h
  rw [List.drop_eq_getElem_cons hp] at h
  simp only [List.cons.injEq] at h
  exact ⟨by rw [List.getElem?_eq_getElem hp, h.1], hp, h.2⟩
theorem scanF_rises (right : Bool) (s : By) : ∀ (n : Nat) (p a : Nat) (ended : Bool), a ≤ p → p ≤ s.length → Gap s a p → Rises s a (scanF right n (s.drop p) p ended)
  | 0, _, _, _, _, _, _ => .nil _
  | n + 1, p, a, ended, hap, hps, hg => by
    cases hd : s.drop p with
    | nil =>
      have hp : p = s.length := by
        have := congrArg List.length hd
        rw [List.length_drop] at this
        simp at this; omega
      simp only [scanF]
      split
      · exact .cons (f := p) (e := p) ⟨rfl, rfl, hap, Nat.le_refl _, hps, hg, .inl ⟨rfl, rfl, .inr hp⟩⟩ (fun _ => rfl) (.nil _)
      · exact .nil _
    | cons c r =>
      obtain ⟨h1, h2, h3⟩ := drop_cons hd
      simp only [scanF]
      split
      · rename_i hc
        refine .cons (f := p) (e := p + 1) ⟨rfl, rfl, hap, by omega, by omega, hg, .inl ⟨rfl, rfl, .inl (by rw [h1, hc.1])⟩⟩ (fun h => by omega) ?_
        rw [← h3]
        exact scanF_rises right s n (p + 1) (p + 1) false (Nat.le_refl _) (by omega) (gap_nil _ _)
      · split
        · rename_i hb
          rw [← h3]
          exact scanF_rises right s n (p + 1) a ended (by omega) (by omega) (gap_blank hg h1 hb)
        · split
          · rename_i hk
            have hc47 : c = 47 := by
              match r, hk with
              | [], hk => simp [cmtLen] at hk
              | b :: r', hk =>
                simp only [cmtLen] at hk
                split at hk
                · rename_i h; exact h.1
                · omega
            have hle := cmt_le (c :: r)
            rw [← hd, List.drop_drop]
            rw [← hd, List.length_drop] at hle
            exact scanF_rises right s n _ a ended (by omega) (by omega) (gap_slash hg hap (by rw [h1, hc47]))
          · have hw := word_bounds right (l := c :: r) (by simp)
            obtain ⟨m, hm⟩ : ∃ m, (wordL right (c :: r)).2 = m := ⟨_, rfl⟩
            rw [hm] at hw ⊢
            have hle := hw.2
            rw [← hd, List.length_drop] at hle
            refine .cons (f := p) (e := p + m) ⟨rfl, rfl, hap, by omega, by omega, hg, .inr ⟨?_, ?_⟩⟩ (fun h => absurd h.1 ?_) ?_
            · simp only
              intro h
              have := congrArg List.length h
              rw [List.length_take] at this
              simp only [List.length_cons, List.length_nil] at this hw
              omega
            · simp only
              rw [hd, show p + m - p = m by omega]
            · simp only
              intro h
              have := congrArg List.length h
              rw [List.length_take] at this
              simp only [List.length_cons, List.length_nil] at this hw
              omega
            · rw [← hd, List.drop_drop]
              exact scanF_rises right s n _ _ _ (Nat.le_refl _) (by omega) (gap_nil _ _)
theorem scan_rises (right : Bool) (s : By) : Rises s 0 (scanB right s) := by
  have := scanF_rises right s (s.length + 1) 0 0 false (Nat.le_refl _) (Nat.zero_le _) (gap_nil _ _)
  rw [List.drop_zero] at this
  exact this
end Go.Proofs.YtnjhmjkonmmomaaDoor.S
end
/- SAgain: Plain facts about programs' words: their brief, scanned again; two programs with a byte 10 between. -/
section
namespace Go.Proofs.YtnjhmjkonmmomaaDoor.S
open Go.Lib Go.Proofs.YtnjhmjkonmmomaaDoor.U

/-! ### What a word's text, or a program, is followed by -/
theorem tw_stop {p : UInt8 → Bool} {d : UInt8} (hd : p d = false) (b : By) : ∀ r : By, (r ++ d :: b).takeWhile p = r.takeWhile p
  | [] => by simp [hd]
  | c :: r => by
    simp only [List.cons_append, List.takeWhile_cons]
    rw [tw_stop hd b r]
theorem tw_take (p : UInt8 → Bool) (r : By) : r.take (r.takeWhile p).length = r.takeWhile p := (List.prefix_iff_eq_take.1 (List.takeWhile_prefix p)).symm
theorem tw_tw (p : UInt8 → Bool) : ∀ r : By, (r.takeWhile p).takeWhile p = r.takeWhile p
  | [] => rfl
  | c :: r => by
    simp only [List.takeWhile_cons]
    split
    · rename_i h
      rw [List.takeWhile_cons, h, tw_tw p r]; rfl
    · rfl
/-- Nothing, or a blank. -/
def Tail (t : By) : Prop := t = [] ∨ ∃ r, t = 32 :: r
theorem tw_tail {p : UInt8 → Bool} (h32 : p 32 = false) {r t : By} (ht : Tail t) : (r.takeWhile p ++ t).takeWhile p = r.takeWhile p := by
  rcases ht with rfl | ⟨u, rfl⟩
  · rw [List.append_nil, tw_tw]
  · rw [tw_stop h32, tw_tw]
theorem quoTail_take : ∀ (r : By) (n : Nat) (t : By), quoTail r = some n → quoTail (r.take n ++ t) = some n
  | [], n, t, h => by simp [quoTail] at h
  | c :: r, n, t, h => by
    simp only [quoTail] at h
    split at h
    · cases h
    · rename_i h10
      split at h
      · rename_i h34
        cases h
        simp [quoTail, h34]
      · rename_i h34
        cases hq : quoTail r with
        | none => rw [hq] at h; cases h
        | some m =>
          rw [hq] at h
          simp only [Option.map_some, Option.some.injEq] at h
          subst h
          simp only [List.take_succ_cons, List.cons_append, quoTail, if_neg h10, if_neg h34, quoTail_take r m t hq, Option.map_some]
theorem wid_low (c : UInt8) (r : By) (h : c.toNat < 128) : wid (c :: r) = 1 := by
  have hg : ((⟨(c :: r).toArray⟩ : ByteArray).get! 0).toNat = c.toNat := by
    show ((c :: r).toArray[0]!).toNat = c.toNat
    simp
  unfold wid
  rw [decode_at, hg]
  unfold decodeN
  rw [if_pos h]

/-! ### The brief -/
def txP (t : TokP) : By := if t.w = 5 then [59] else t.t
def briefL : List TokP → By
  | [] => []
  | [t] => txP t
  | t :: u :: r => txP t ++ 32 :: briefL (u :: r)
theorem briefL_snoc : ∀ (l : List TokP) (t : TokP), briefL (l ++ [t]) = if l = [] then txP t else briefL l ++ 32 :: txP t
  | [], t => rfl
  | [u], t => by simp [briefL]
  | u :: v :: r, t => by
    have := briefL_snoc (v :: r) t
    simp only [List.cons_append, briefL] at this ⊢
    rw [this]
    simp
def kt (t : TokP) : Int × By := (t.w, if t.w = 5 then [] else t.t)
/-- A word's text, with a blank or nothing behind it, is scanned to the word. -/
def Self (t : TokP) : Prop := ∃ c x, txP t = c :: x ∧ blank c = false ∧ ∀ tl, Tail tl → cmtLen (c :: x ++ tl) = 0 ∧ ∀ right, wordL right (c :: x ++ tl) = (t.w, (c :: x).length)
theorem ends_tx (t : TokP) : endsP t.w (txP t) = endsP t.w t.t := by
  unfold txP
  by_cases h : t.w = 5
  · rw [if_pos h, h]; simp [endsP]
  · rw [if_neg h]
theorem kt_tx {w f e f' e' : Int} {t : By} : kt ⟨w, txP ⟨w, t, f, e⟩, f', e'⟩ = kt ⟨w, t, f, e⟩ := by
  unfold kt txP
  by_cases h : w = 5 <;> simp [h]
theorem self_step {t : TokP} (h : Self t) {tl : By} (ht : Tail tl) (right : Bool) (n pos : Nat) (ended : Bool) :
    scanF right (n + 1) (txP t ++ tl) pos ended = ⟨t.w, txP t, pos, ((pos + (txP t).length : Nat) : Int)⟩ :: scanF right n tl (pos + (txP t).length) (endsP t.w t.t) := by
  obtain ⟨c, x, h1, h2, h3⟩ := h
  obtain ⟨h4, h5⟩ := h3 tl ht
  have h10 : ¬ c = 10 := by
    rintro rfl
    simp [blank] at h2
  rw [← ends_tx t]
  rw [h1]
  simp only [List.cons_append] at h4 h5 ⊢
  simp only [scanF]
  rw [if_neg (fun h => h10 h.1), if_neg (by rw [h2]; simp), if_neg (by rw [h4]; omega), h5 right]
  have e1 : (c :: (x ++ tl)).take (c :: x).length = c :: x := by rw [← List.cons_append, List.take_left]
  have e2 : (c :: (x ++ tl)).drop (c :: x).length = tl := by rw [← List.cons_append, List.drop_left]
  simp only [e1, e2]
theorem scan_brief (right : Bool) : ∀ (l : List TokP) (n pos : Nat) (ended : Bool), l ≠ [] → (∀ t ∈ l, Self t) → (∀ t, l.getLast? = some t → endsP t.w t.t = false) → (briefL l).length < n →
    (scanF right n (briefL l) pos ended).map kt = l.map kt
  | [], _, _, _, h, _, _, _ => absurd rfl h
  | [t], n, pos, ended, _, hs, hl, hn => by
    obtain ⟨n, rfl⟩ : ∃ k, n = k + 1 := ⟨n - 1, by omega⟩
    have h := self_step (hs t (by simp)) (tl := []) (.inl rfl) right n pos ended
    rw [List.append_nil] at h
    simp only [briefL] at hn ⊢
    rw [h, hl t rfl]
    have hx : 1 ≤ (txP t).length := by
      obtain ⟨c, x, h1, _⟩ := hs t (by simp)
      rw [h1]; simp
    obtain ⟨n, rfl⟩ : ∃ k, n = k + 1 := ⟨n - 1, by omega⟩
    simp only [scanF, List.map_cons]
    obtain ⟨w, tt, f, e⟩ := t
    rw [kt_tx]; rfl
  | t :: u :: r, n, pos, ended, _, hs, hl, hn => by
    obtain ⟨n, rfl⟩ : ∃ k, n = k + 1 := ⟨n - 1, by omega⟩
    have h := self_step (hs t (by simp)) (tl := 32 :: briefL (u :: r)) (.inr ⟨_, rfl⟩) right n pos ended
    simp only [briefL, List.length_append, List.length_cons] at hn
    have hb : briefL (t :: u :: r) = txP t ++ 32 :: briefL (u :: r) := rfl
    have hx : 1 ≤ (txP t).length := by
      obtain ⟨c, x, h1, _⟩ := hs t (by simp)
      rw [h1]; simp
    obtain ⟨n, rfl⟩ : ∃ k, n = k + 1 := ⟨n - 1, by omega⟩
    rw [hb, h]
    have h32 : scanF right (n + 1) (32 :: briefL (u :: r)) (pos + (txP t).length) (endsP t.w t.t) = scanF right n (briefL (u :: r)) (pos + (txP t).length + 1) (endsP t.w t.t) := by
      simp only [scanF]
      rw [if_neg (fun h => absurd h.1 (by decide)), if_pos (by decide)]
    rw [h32, List.map_cons, List.map_cons, scan_brief right (u :: r) n _ _ (by simp) (fun x hx => hs x (List.mem_cons_of_mem _ hx)) (fun x hx => hl x (by rw [List.getLast?_cons_cons]; exact hx)) (by omega)]
    obtain ⟨w, tt, f, e⟩ := t
    rw [kt_tx]

/-! ### The words of a program are such -/
/-- A Mark that is a slash, a quote's beginning, or of a byte from 128 on. -/
def Bad (t : TokP) : Prop := t.w = 4 ∧ (t.t = [47] ∨ t.t = [34] ∨ ∃ c r, t.t = c :: r ∧ 128 ≤ c.toNat)
theorem word_self (right : Bool) (c : UInt8) (r : By) (f e : Int) (hb : blank c = false) (hbad : ¬ Bad ⟨(wordL right (c :: r)).1, (c :: r).take (wordL right (c :: r)).2, f, e⟩) :
    Self ⟨(wordL right (c :: r)).1, (c :: r).take (wordL right (c :: r)).2, f, e⟩ := by
  by_cases h1 : lett c = true
  · -- a name
    have hn : nameLen (c :: r) = (r.takeWhile nmc).length + 1 := by simp only [nameLen, h1, if_true]; omega
    have ht : (c :: r).take (nameLen (c :: r)) = c :: r.takeWhile nmc := by rw [hn, List.take_succ_cons, tw_take]
    have hw : wordL right (c :: r) = (if keyB (c :: r.takeWhile nmc) = true then 3 else 0, nameLen (c :: r)) := by
      unfold wordL
      rw [if_pos (by omega), ht]
    rw [hw] at hbad ⊢
    simp only [ht] at hbad ⊢
    have h5 : ¬ (if keyB (c :: r.takeWhile nmc) = true then (3 : Int) else 0) = 5 := by split <;> omega
    refine ⟨c, r.takeWhile nmc, by unfold txP; simp only; rw [if_neg h5], hb, fun tl htl => ⟨?_, fun right' => ?_⟩⟩
    · have h47 : ¬ c = 47 := by rintro rfl; simp [lett] at h1
      match hh : r.takeWhile nmc ++ tl with
      | [] => rw [List.cons_append, hh]; rfl
      | b :: u => rw [List.cons_append, hh]; simp only [cmtLen]; rw [if_neg (fun h => h47 h.1)]
    · have hn' : nameLen (c :: r.takeWhile nmc ++ tl) = (r.takeWhile nmc).length + 1 := by
        rw [List.cons_append]
        simp only [nameLen, h1, if_true]
        rw [tw_tail (by decide) htl]; omega
      unfold wordL
      rw [if_pos (by omega), hn']
      rw [show (r.takeWhile nmc).length + 1 = (c :: r.takeWhile nmc).length by simp, List.take_left]
  · have hn0 : nameLen (c :: r) = 0 := by simp [nameLen, h1]
    have hn0' : ∀ u, nameLen (c :: u) = 0 := fun u => by simp [nameLen, h1]
    by_cases h2 : figu c = true
    · -- figures
      have hn : numLen (c :: r) = (r.takeWhile figu).length + 1 := by unfold numLen; rw [List.takeWhile_cons, h2]; rfl
      have ht : (c :: r).take (numLen (c :: r)) = c :: r.takeWhile figu := by rw [hn, List.take_succ_cons, tw_take]
      have hw : wordL right (c :: r) = (1, numLen (c :: r)) := by
        unfold wordL
        rw [if_neg (by omega), if_pos (by omega)]
      rw [hw] at hbad ⊢
      simp only [ht] at hbad ⊢
      refine ⟨c, r.takeWhile figu, by unfold txP; simp, hb, fun tl htl => ⟨?_, fun right' => ?_⟩⟩
      · have h47 : ¬ c = 47 := by rintro rfl; simp [figu] at h2
        match hh : r.takeWhile figu ++ tl with
        | [] => rw [List.cons_append, hh]; rfl
        | b :: u => rw [List.cons_append, hh]; simp only [cmtLen]; rw [if_neg (fun h => h47 h.1)]
      · have hn' : numLen (c :: r.takeWhile figu ++ tl) = (r.takeWhile figu).length + 1 := by
          rw [List.cons_append]
          unfold numLen
          rw [List.takeWhile_cons, h2]
          simp only [if_true, List.length_cons]
          rw [tw_tail (by decide) htl]
        unfold wordL
        rw [if_neg (by rw [List.cons_append, hn0']; omega), if_pos (by omega), hn']
        simp
    · have hm0 : ∀ u, numLen (c :: u) = 0 := fun u => by unfold numLen; rw [List.takeWhile_cons]; simp [h2]
      by_cases h3 : 0 < quoLen (c :: r)
      · -- a quote
        have h34 : c = 34 := by
          by_cases h : c = 34
          · exact h
          · simp [quoLen, h] at h3
        subst h34
        obtain ⟨n, hq⟩ : ∃ n, quoTail r = some n := by
          cases hq : quoTail r with
          | none => simp [quoLen, hq] at h3
          | some n => exact ⟨n, rfl⟩
        have hn : quoLen (34 :: r) = n + 1 := by simp [quoLen, hq]
        have hw : wordL right (34 :: r) = (2, n + 1) := by
          unfold wordL
          rw [if_neg (by rw [hn0]; omega), if_neg (by rw [hm0]; omega), if_pos h3, hn]
        rw [hw] at hbad ⊢
        simp only [List.take_succ_cons] at hbad ⊢
        have hnl := (quoTail_le r n hq).2
        refine ⟨34, r.take n, by unfold txP; simp, hb, fun tl htl => ⟨?_, fun right' => ?_⟩⟩
        · match hh : r.take n ++ tl with
          | [] => rw [List.cons_append, hh]; rfl
          | b :: u => rw [List.cons_append, hh]; simp [cmtLen]
        · have hn' : quoLen (34 :: r.take n ++ tl) = n + 1 := by
            rw [List.cons_append]
            simp [quoLen, quoTail_take r n tl hq]
          unfold wordL
          rw [if_neg (by rw [List.cons_append, hn0']; omega), if_neg (by rw [List.cons_append, hm0]; omega), if_pos (by omega), hn']
          simp [List.length_take, Nat.min_eq_left hnl]
      · by_cases h4 : c = 59
        · subst h4
          have hw : wordL right (59 :: r) = (5, 1) := by
            unfold wordL
            rw [if_neg (by rw [hn0]; omega), if_neg (by rw [hm0]; omega), if_neg h3, if_pos (by rfl)]
          rw [hw]
          refine ⟨59, [], rfl, hb, fun tl htl => ⟨?_, fun right' => ?_⟩⟩
          · cases tl with
            | nil => rfl
            | cons b u => simp [cmtLen]
          · unfold wordL
            rw [if_neg (by rw [List.cons_append, hn0']; omega), if_neg (by rw [List.cons_append, hm0]; omega), if_neg (by simp [quoLen]), if_pos (by rfl)]
            rfl
        · have hw : wordL right (c :: r) = (4, markLen right (c :: r)) := by
            unfold wordL
            rw [if_neg (by rw [hn0]; omega), if_neg (by rw [hm0]; omega), if_neg h3, if_neg (by simpa using h4)]
          rw [hw] at hbad ⊢
          simp only at hbad ⊢
          by_cases h5 : two (c :: r) = true
          · -- a mark of two
            match r, h5 with
            | b :: u, h5 =>
              have hl : markLen right (c :: b :: u) = 2 := by unfold markLen; rw [if_pos h5]
              rw [hl] at hbad ⊢
              have h47 : ¬ c = 47 := by rintro rfl; simp [two] at h5
              have h34 : ¬ c = 34 := by rintro rfl; simp [two] at h5
              refine ⟨c, [b], by unfold txP; simp, hb, fun tl htl => ⟨?_, fun right' => ?_⟩⟩
              · simp only [List.cons_append, List.nil_append, cmtLen]; rw [if_neg (fun h => h47 h.1)]
              · have h5' : two (c :: ([b] ++ tl)) = true := by simpa [two] using h5
                unfold wordL
                rw [List.cons_append, if_neg (by rw [hn0']; omega), if_neg (by rw [hm0]; omega), if_neg (by simp [quoLen, h34]), if_neg (by simpa using h4)]
                unfold markLen
                rw [if_pos h5']; rfl
          · -- a mark of one
            have hl : markLen right (c :: r) = if right = true then wid (c :: r) else 1 := by unfold markLen; rw [if_neg h5]
            have hm := mark_bounds right (l := c :: r) (by simp)
            have hc : c.toNat < 128 := by
              by_cases h : c.toNat < 128
              · exact h
              · exfalso
                apply hbad
                obtain ⟨m, hm2⟩ : ∃ m, markLen right (c :: r) = m + 1 := ⟨markLen right (c :: r) - 1, by omega⟩
                exact ⟨rfl, .inr (.inr ⟨c, r.take m, by rw [hm2, List.take_succ_cons], by omega⟩)⟩
            have hl1 : markLen right (c :: r) = 1 := by rw [hl, wid_low c r hc]; simp
            rw [hl1] at hbad ⊢
            have h47 : ¬ c = 47 := by rintro rfl; exact hbad ⟨rfl, .inl rfl⟩
            have h34 : ¬ c = 34 := by rintro rfl; exact hbad ⟨rfl, .inr (.inl rfl)⟩
            refine ⟨c, [], by unfold txP; simp, hb, fun tl htl => ⟨?_, fun right' => ?_⟩⟩
            · cases tl with
              | nil => rfl
              | cons b u => simp only [List.cons_append, List.nil_append, cmtLen]; rw [if_neg (fun h => h47 h.1)]
            · have h5' : ¬ two (c :: tl) = true := by
                rcases htl with rfl | ⟨u, rfl⟩
                · simp [two]
                · simp [two]
              unfold wordL
              rw [List.cons_append, List.nil_append, if_neg (by rw [hn0']; omega), if_neg (by rw [hm0]; omega), if_neg (by simp [quoLen, h34]), if_neg (by simpa using h4)]
              unfold markLen
              rw [if_neg h5', wid_low c tl hc]
              simp
theorem semi_self (f e : Int) : Self ⟨5, [], f, e⟩ := by
  refine ⟨59, [], rfl, by decide, fun tl htl => ⟨?_, fun right' => ?_⟩⟩
  · cases tl with
    | nil => rfl
    | cons b u => simp [cmtLen]
  · unfold wordL
    rw [if_neg (by simp [nameLen, lett]), if_neg (by simp [numLen, figu]), if_neg (by simp [quoLen]), if_pos (by rfl)]
    rfl
theorem scanF_self (right : Bool) : ∀ (n : Nat) (l : By) (pos : Nat) (ended : Bool), ∀ t ∈ scanF right n l pos ended, ¬ Bad t → Self t
  | 0, _, _, _, t, ht, _ => by cases ht
  | n + 1, [], pos, ended, t, ht, _ => by
    simp only [scanF] at ht
    split at ht
    · rw [List.mem_singleton.1 ht]; exact semi_self _ _
    · cases ht
  | n + 1, c :: r, pos, ended, t, ht, hb => by
    simp only [scanF] at ht
    split at ht
    · rcases List.mem_cons.1 ht with rfl | ht
      · exact semi_self _ _
      · exact scanF_self right n _ _ _ t ht hb
    · split at ht
      · exact scanF_self right n _ _ _ t ht hb
      · rename_i hbl
        split at ht
        · exact scanF_self right n _ _ _ t ht hb
        · rcases List.mem_cons.1 ht with rfl | ht
          · exact word_self right c r _ _ (by simpa using hbl) hb
          · exact scanF_self right n _ _ _ t ht hb
/-- A statement does not end behind the last one. -/
theorem scanF_last (right : Bool) : ∀ (n : Nat) (l : By) (pos : Nat) (ended : Bool), l.length < n → (scanF right n l pos ended = [] → ended = false) ∧ ∀ t, (scanF right n l pos ended).getLast? = some t → endsP t.w t.t = false
  | 0, _, _, _, h => by omega
  | n + 1, [], pos, ended, _ => by
    simp only [scanF]
    cases ended
    · exact ⟨fun _ => rfl, fun t h => by simp at h⟩
    · exact ⟨fun h => by simp at h, fun t h => by simp at h; rw [← h]; rfl⟩
  | n + 1, c :: r, pos, ended, hn => by
    have hr : r.length < n := by simp only [List.length_cons] at hn; omega
    have hc := cmt_le (c :: r)
    have hw := word_bounds right (l := c :: r) (by simp)
    have hd : ∀ k, 1 ≤ k → ((c :: r).drop k).length < n := fun k hk => by
      rw [List.length_drop]; simp only [List.length_cons] at hn ⊢; omega
    have key : ∀ (t : TokP) (rest : List TokP) (E : Bool), E = endsP t.w t.t → (rest = [] → E = false) → (∀ u, rest.getLast? = some u → endsP u.w u.t = false) → ∀ u, (t :: rest).getLast? = some u → endsP u.w u.t = false := by
      intro t rest E hE h1 h2 u hu
      cases rest with
      | nil => simp at hu; rw [← hu, ← hE]; exact h1 rfl
      | cons x y => rw [List.getLast?_cons_cons] at hu; exact h2 u hu
    simp only [scanF]
    split
    · obtain ⟨h1, h2⟩ := scanF_last right n r (pos + 1) false hr
      exact ⟨fun h => by simp at h, key _ _ false rfl h1 h2⟩
    · split
      · exact scanF_last right n r (pos + 1) ended hr
      · split
        · rename_i hk
          exact scanF_last right n _ _ ended (hd _ hk)
        · obtain ⟨h1, h2⟩ := scanF_last right n _ (pos + (wordL right (c :: r)).2) (endsP (wordL right (c :: r)).1 ((c :: r).take (wordL right (c :: r)).2)) (hd _ hw.1)
          exact ⟨fun h => by simp at h, key _ _ _ rfl h1 h2⟩
/-- AGAIN. -/
theorem scan_again (right right' : Bool) (s : By) (h : ∀ t ∈ scanB right s, ¬ Bad t) : (scanB right' (briefL (scanB right s))).map kt = (scanB right s).map kt := by
  by_cases h0 : scanB right s = []
  · rw [h0]; rfl
  · have hl := scanF_last right (s.length + 1) s 0 false (by omega)
    exact scan_brief right' _ _ _ _ h0 (fun t ht => scanF_self right _ _ _ _ t ht (h t ht)) hl.2 (Nat.lt_succ_self _)

/-! ### Two programs with a byte 10 between -/
def Low (l : By) : Prop := ∀ c ∈ l, c.toNat < 128
theorem quoTail_stop (b : By) : ∀ r : By, quoTail (r ++ 10 :: b) = quoTail r
  | [] => by simp [quoTail]
  | c :: r => by simp only [List.cons_append, quoTail, quoTail_stop b r]
theorem word_stop (r1 r2 : Bool) (c : UInt8) (r b : By) (h : Low (c :: r)) : wordL r1 (c :: r ++ 10 :: b) = wordL r2 (c :: r) := by
  have hn : nameLen (c :: r ++ 10 :: b) = nameLen (c :: r) := by
    rw [List.cons_append]; simp only [nameLen, tw_stop (show nmc 10 = false by decide)]
  have hm : numLen (c :: r ++ 10 :: b) = numLen (c :: r) := by
    unfold numLen; rw [tw_stop (show figu 10 = false by decide)]
  have hq : quoLen (c :: r ++ 10 :: b) = quoLen (c :: r) := by
    rw [List.cons_append]; simp only [quoLen, quoTail_stop]
  have ht : two (c :: r ++ 10 :: b) = two (c :: r) := by
    cases r with
    | nil => simp [two]
    | cons x y => rfl
  have hk : markLen r1 (c :: r ++ 10 :: b) = markLen r2 (c :: r) := by
    unfold markLen
    rw [ht, List.cons_append, wid_low _ _ (h c (by simp)), wid_low _ _ (h c (by simp))]
    simp
  have htk : (c :: r ++ 10 :: b).take (nameLen (c :: r)) = (c :: r).take (nameLen (c :: r)) := List.take_append_of_le_length (name_le _)
  unfold wordL
  rw [hn, hm, hq, hk, htk]
  rfl
theorem cmt_stop (c : UInt8) (r b : By) : cmtLen (c :: r ++ 10 :: b) = cmtLen (c :: r) := by
  cases r with
  | nil => simp [cmtLen]
  | cons x y =>
    simp only [List.cons_append, cmtLen]
    rw [tw_stop (by decide)]
def fixT (L : Nat) (t : TokP) : TokP := if t.f = (L : Int) then ⟨t.w, t.t, t.f, t.e + 1⟩ else t
theorem scanF_join (r1 r2 : Bool) (b : By) (hb : Low b) : ∀ (n m : Nat) (x : By) (pos : Nat) (ended : Bool), (x ++ 10 :: b).length < n → x.length < m → Low x →
    ∃ k, b.length < k ∧ scanF r1 n (x ++ 10 :: b) pos ended = (scanF r2 m x pos ended).map (fixT (pos + x.length)) ++ scanF r1 k b (pos + x.length + 1) false
  | 0, _, _, _, _, h, _, _ => by omega
  | _ + 1, 0, _, _, _, _, h, _ => by omega
  | n + 1, m + 1, [], pos, ended, hn, hm, hx => by
    refine ⟨n, by simp at hn; omega, ?_⟩
    simp only [List.nil_append, scanF, List.length_nil, Nat.add_zero]
    cases ended
    · simp [blank]
    · simp [fixT]
  | n + 1, m + 1, c :: r, pos, ended, hn, hm, hx => by
    have hr : (r ++ 10 :: b).length < n ∧ r.length < m := by simp only [List.cons_append, List.length_cons] at hn hm; exact ⟨by omega, by omega⟩
    have hxr : Low r := fun d hd => hx d (by simp [hd])
    have hcl := cmt_le (c :: r)
    have hwb := word_bounds r2 (l := c :: r) (by simp)
    have hw := word_stop r1 r2 c r b hx
    have hc := cmt_stop c r b
    have hfix : ∀ (w : Int) (t : By) (e : Int), fixT (pos + (c :: r).length) ⟨w, t, pos, e⟩ = ⟨w, t, pos, e⟩ := fun w t e => by
      unfold fixT
      rw [if_neg (by simp only [List.length_cons]; omega)]
    have hdrop : ∀ k, 1 ≤ k → k ≤ (c :: r).length → (c :: r ++ 10 :: b).drop k = (c :: r).drop k ++ 10 :: b ∧ ((c :: r).drop k ++ 10 :: b).length < n ∧ ((c :: r).drop k).length < m ∧ Low ((c :: r).drop k) ∧ pos + k + ((c :: r).drop k).length = pos + (c :: r).length := fun k h1 h2 => by
      refine ⟨List.drop_append_of_le_length h2, ?_, ?_, fun d hd => hx d (List.mem_of_mem_drop hd), ?_⟩
      · rw [List.length_append, List.length_drop]; simp only [List.cons_append, List.length_cons, List.length_append] at hn h2 ⊢; omega
      · rw [List.length_drop]; simp only [List.length_cons] at hm h2 ⊢; omega
      · rw [List.length_drop]; omega
    rw [List.cons_append] at hw hc ⊢
    simp only [scanF]
    rw [hw, hc]
    split
    · obtain ⟨k, h1, h2⟩ := scanF_join r1 r2 b hb n m r (pos + 1) false hr.1 hr.2 hxr
      refine ⟨k, h1, ?_⟩
      rw [h2, List.map_cons, hfix, List.cons_append]
      simp only [List.length_cons]
      rw [show pos + 1 + r.length = pos + (r.length + 1) by omega]
    · split
      · obtain ⟨k, h1, h2⟩ := scanF_join r1 r2 b hb n m r (pos + 1) ended hr.1 hr.2 hxr
        refine ⟨k, h1, ?_⟩
        rw [h2]
        simp only [List.length_cons]
        rw [show pos + 1 + r.length = pos + (r.length + 1) by omega]
      · split
        · rename_i hk
          obtain ⟨d1, d2, d3, d4, d5⟩ := hdrop _ hk hcl
          rw [← List.cons_append, d1]
          obtain ⟨k, h1, h2⟩ := scanF_join r1 r2 b hb n m _ (pos + cmtLen (c :: r)) ended d2 d3 d4
          refine ⟨k, h1, ?_⟩
          rw [h2, d5]
        · obtain ⟨d1, d2, d3, d4, d5⟩ := hdrop _ hwb.1 hwb.2
          rw [← List.cons_append, d1, List.take_append_of_le_length hwb.2]
          obtain ⟨k, h1, h2⟩ := scanF_join r1 r2 b hb n m _ (pos + (wordL r2 (c :: r)).2) (endsP (wordL r2 (c :: r)).1 ((c :: r).take (wordL r2 (c :: r)).2)) d2 d3 d4
          refine ⟨k, h1, ?_⟩
          rw [h2, d5, List.map_cons, hfix, List.cons_append]
theorem scanF_right (r1 r2 : Bool) : ∀ (n : Nat) (l : By) (pos : Nat) (ended : Bool), Low l → scanF r1 n l pos ended = scanF r2 n l pos ended
  | 0, _, _, _, _ => rfl
  | n + 1, [], pos, ended, _ => rfl
  | n + 1, c :: r, pos, ended, h => by
    have hw : wordL r1 (c :: r) = wordL r2 (c :: r) := by
      unfold wordL markLen
      rw [wid_low _ _ (h c (by simp))]
      simp
    have hr : Low r := fun d hd => h d (by simp [hd])
    have hd : ∀ k, Low ((c :: r).drop k) := fun k d hd => h d (List.mem_of_mem_drop hd)
    simp only [scanF]
    rw [hw, scanF_right r1 r2 n r _ _ hr, scanF_right r1 r2 n r _ _ hr, scanF_right r1 r2 n _ _ _ (hd _), scanF_right r1 r2 n _ _ _ (hd _)]
/-- ONE BEHIND THE OTHER. -/
theorem scan_join (r1 r2 r3 : Bool) (a b : By) (ha : Low a) (hb : Low b) : scanB r1 (a ++ 10 :: b) = (scanB r2 a).map (fixT a.length) ++ (scanB r3 b).map (shiftT (a.length + 1)) := by
  obtain ⟨k, h1, h2⟩ := scanF_join r1 r2 b hb ((a ++ 10 :: b).length + 1) (a.length + 1) a 0 false (by omega) (by omega) ha
  unfold scanB
  rw [h2, Nat.zero_add]
  congr 1
  rw [scanF_fuel r1 k (b.length + 1) b _ _ h1 (by omega), scanF_right r1 r3 _ _ _ _ hb]
  have := scanF_shift r3 (a.length + 1) (b.length + 1) b 0 false
  rw [Nat.zero_add] at this
  exact this
end Go.Proofs.YtnjhmjkonmmomaaDoor.S
end
/- TPlain: Plain facts about declarations as parts: what a reader of words makes of them, word by word. It imports nothing of the program. -/
section
namespace Go.Proofs.YtnjhmjkonmmomaaDoor.T
open Go.Lib Go.Proofs.YtnjhmjkonmmomaaDoor.U Go.Proofs.YtnjhmjkonmmomaaDoor.S

/-- A part: its kind, its text, where it stands, its Kids. -/
inductive Pt where
  | mk (k t : By) (f e : Int) (kids : List Pt)
/-- What a reader comes to: a thing, and the word behind it; or the word that is wrong. -/
inductive Out (α : Type) where
  | ok (a : α) (at' : Nat)
  | bad (at' : Nat)
def Out.next {α β : Type} (o : Out α) (f : α → Nat → Out β) : Out β := match o with
  | .ok a i => f a i
  | .bad i => .bad i

section
variable (L : List TokP)
def isT (x : By) (i : Nat) : Bool := match L[i]? with
  | some t => t.t == x && (t.w == 4 || t.w == 3)
  | none => false
def comesT (w : Int) (i : Nat) : Bool := match L[i]? with
  | some t => t.w == w
  | none => false
def mustT (x : By) (i : Nat) : Out Unit := if isT L x i then .ok () (i + 1) else .bad i
def textT (i : Nat) : By := match L[i]? with
  | some t => t.t
  | none => []
def nameT (i : Nat) : Out By := if comesT L 0 i then .ok (textT L i) (i + 1) else .bad i
def semiN (i : Nat) : Nat := ((L.drop i).takeWhile (fun t => t.w == 5)).length
def fromT (i : Nat) : Int := match L[i]? with
  | some t => t.f
  | none => 0
def toT (i : Nat) : Int := if i = 0 then 0 else match L[i - 1]? with
  | some t => t.e
  | none => 0
def part (k t : By) (f : Int) (kids : List Pt) (i : Nat) : Out Pt := .ok (.mk k t f (toT L i) kids) i
/-- A mark's strength between two. -/
def strong (t : TokP) : Int :=
  if t.w = 4 then
    if t.t = [124, 124] then 1
    else if t.t = [38, 38] then 2
    else if t.t = [61, 61] ∨ t.t = [33, 61] ∨ t.t = [60] ∨ t.t = [60, 61] ∨ t.t = [62] ∨ t.t = [62, 61] then 3
    else if t.t = [43] ∨ t.t = [45] then 4
    else if t.t = [42] ∨ t.t = [47] ∨ t.t = [37] then 5
    else 0
  else 0
def strongT (i : Nat) : Int := match L[i]? with
  | some t => strong t
  | none => 0

/-! ### The kinds' names -/
def kFunc : By := [102, 117, 110, 99]
def kVar : By := [118, 97, 114]
def kType : By := [116, 121, 112, 101]
def kStruct : By := [115, 116, 114, 117, 99, 116]
def kReturn : By := [114, 101, 116, 117, 114, 110]
def kIf : By := [105, 102]
def kElse : By := [101, 108, 115, 101]
def kFor : By := [102, 111, 114]
def kStar : By := [115, 116, 97, 114]
def kSlice : By := [115, 108, 105, 99, 101]
def kName : By := [110, 97, 109, 101]
def kParam : By := [112, 97, 114, 97, 109]
def kParams : By := [112, 97, 114, 97, 109, 115]
def kResult : By := [114, 101, 115, 117, 108, 116]
def kField : By := [102, 105, 101, 108, 100]
def kBlock : By := [98, 108, 111, 99, 107]
def kAssign : By := [97, 115, 115, 105, 103, 110]
def kDefine : By := [100, 101, 102, 105, 110, 101]
def kExpr : By := [101, 120, 112, 114]
def kNum : By := [110, 117, 109]
def kStr : By := [115, 116, 114]
def kId : By := [105, 100]
def kUnary : By := [117, 110, 97, 114, 121]
def kBinary : By := [98, 105, 110, 97, 114, 121]
def kCall : By := [99, 97, 108, 108]
def kIndex : By := [105, 110, 100, 101, 120]
def kNew : By := [110, 101, 119]
def kMake : By := [109, 97, 107, 101]

/-! ### Types -/
def typed : Nat → Nat → Out Pt
  | 0, i => .bad i
  | n + 1, i =>
    if isT L [42] i then (typed n (i + 1)).next fun x j => part L kStar [] (fromT L i) [x] j
    else if isT L [91] i then (mustT L [93] (i + 1)).next fun _ j => (typed n j).next fun x k => part L kSlice [] (fromT L i) [x] k
    else (nameT L i).next fun s j => part L kName s (fromT L i) [] j
def param (n : Nat) (kind : By) (i : Nat) : Out Pt := (nameT L i).next fun s j => (typed L n j).next fun x k => part L kind s (fromT L i) [x] k
def allP (kind : By) : List Pt → Pt
  | [] => .mk kind [] 0 0 []
  | .mk k t f e ks :: r => .mk kind [] f (match (Pt.mk k t f e ks :: r).getLast? with
    | some (.mk _ _ _ e' _) => e'
    | none => 0) (.mk k t f e ks :: r)
/-- Params, up to the bracket. -/
def params (m : Nat) : Nat → Nat → List Pt → Out (List Pt)
  | 0, i, _ => .bad i
  | n + 1, i, acc =>
    (param L m kParam i).next fun p j => if isT L [41] j then .ok (acc ++ [p]) (j + 1) else (mustT L [44] j).next fun _ k => params m n k (acc ++ [p])
/-- Fields, up to the brace. -/
def fields (m : Nat) : Nat → Nat → List Pt → Out (List Pt)
  | 0, i, _ => .bad i
  | n + 1, i, acc =>
    if isT L [125] i then .ok acc i
    else (param L m kField i).next fun p j => if semiN L j = 0 ∧ isT L [125] j = false then .bad j else fields m n (j + semiN L j) (acc ++ [p])

/-! ### Expressions -/
mutual
def expr : Nat → Int → Nat → Out Pt
  | 0, _, i => .bad i
  | n + 1, than, i => (prefixT n i).next fun a j => exprs n than (fromT L i) a j
/-- The marks between two that are stronger, and what follows each. -/
def exprs : Nat → Int → Int → Pt → Nat → Out Pt
  | 0, _, _, _, i => .bad i
  | n + 1, than, f, a, i =>
    if i < L.length ∧ than < strongT L i then (expr n (strongT L i) (i + 1)).next fun b j => exprs n than f (.mk kBinary (textT L i) f (toT L j) [a, b]) j
    else .ok a i
def prefixT : Nat → Nat → Out Pt
  | 0, i => .bad i
  | n + 1, i =>
    if isT L [38] i then (prefixT n (i + 1)).next fun e j => part L kUnary [38] (fromT L i) [e] j
    else if isT L [42] i then (prefixT n (i + 1)).next fun e j => part L kUnary [42] (fromT L i) [e] j
    else if isT L [45] i then (prefixT n (i + 1)).next fun e j => part L kUnary [45] (fromT L i) [e] j
    else if isT L [33] i then (prefixT n (i + 1)).next fun e j => part L kUnary [33] (fromT L i) [e] j
    else (operand n i).next fun a j => tails n (fromT L i) a j
def tails : Nat → Int → Pt → Nat → Out Pt
  | 0, _, _, i => .bad i
  | n + 1, f, a, i =>
    if isT L [46] i then (nameT L (i + 1)).next fun s j => tails n f (.mk kField s f (toT L j) [a]) j
    else if isT L [91] i then (expr n 0 (i + 1)).next fun e j => (mustT L [93] j).next fun _ k => tails n f (.mk kIndex [] f (toT L k) [a, e]) k
    else .ok a i
def operand : Nat → Nat → Out Pt
  | 0, i => .bad i
  | n + 1, i =>
    if comesT L 1 i then part L kNum (textT L i) (fromT L i) [] (i + 1)
    else if comesT L 2 i then part L kStr (textT L i) (fromT L i) [] (i + 1)
    else if isT L [40] i then (expr n 0 (i + 1)).next fun e j => (mustT L [41] j).next fun _ k => .ok e k
    else (nameT L i).next fun s j =>
      if isT L [40] j = false then part L kId s (fromT L i) [] j
      else if s = kNew then (typed L n (j + 1)).next fun x k => (mustT L [41] k).next fun _ m => part L kNew [] (fromT L i) [x] m
      else if s = kMake then (typed L n (j + 1)).next fun x k => (mustT L [44] k).next fun _ m => (expr n 0 m).next fun e o => (mustT L [41] o).next fun _ p => part L kMake [] (fromT L i) [x, e] p
      else if isT L [41] (j + 1) then part L kCall s (fromT L i) [] (j + 2)
      else (args n (j + 1) []).next fun l k => part L kCall s (fromT L i) l k
def args : Nat → Nat → List Pt → Out (List Pt)
  | 0, i, _ => .bad i
  | n + 1, i, acc => (expr n 0 i).next fun a j => if isT L [41] j then .ok (acc ++ [a]) (j + 1) else (mustT L [44] j).next fun _ k => args n k (acc ++ [a])
end

/-! ### Statements -/
def variable' (n : Nat) (i : Nat) : Out Pt := (mustT L kVar i).next fun _ j => (nameT L j).next fun s k => (typed L n k).next fun x m => part L kVar s (fromT L i) [x] m
mutual
def block : Nat → Nat → Out Pt
  | 0, i => .bad i
  | n + 1, i => (mustT L [123] i).next fun _ j => (stmts n (j + semiN L j) []).next fun l k => (mustT L [125] k).next fun _ m => part L kBlock [] (fromT L i) l m
def stmts : Nat → Nat → List Pt → Out (List Pt)
  | 0, i, _ => .bad i
  | n + 1, i, acc =>
    if isT L [125] i then .ok acc i
    else (stmt n i).next fun p j => if semiN L j = 0 ∧ isT L [125] j = false then .bad j else stmts n (j + semiN L j) (acc ++ [p])
def branch : Nat → Nat → Out Pt
  | 0, i => .bad i
  | n + 1, i => (mustT L kIf i).next fun _ j => (expr L n 0 j).next fun e k => (block n k).next fun b m =>
    if isT L kElse m then
      if isT L kIf (m + 1) then (branch n (m + 1)).next fun o p => part L kIf [] (fromT L i) [e, b, o] p
      else (block n (m + 1)).next fun o p => part L kIf [] (fromT L i) [e, b, o] p
    else part L kIf [] (fromT L i) [e, b] m
def stmt : Nat → Nat → Out Pt
  | 0, i => .bad i
  | n + 1, i =>
    if isT L kVar i then variable' L n i
    else if isT L kIf i then branch n i
    else if isT L [123] i then block n i
    else if isT L kFor i then (expr L n 0 (i + 1)).next fun e j => (block n j).next fun b k => part L kFor [] (fromT L i) [e, b] k
    else if isT L kReturn i then
      if comesT L 5 (i + 1) ∨ isT L [125] (i + 1) then part L kReturn [] (fromT L i) [] (i + 1)
      else (expr L n 0 (i + 1)).next fun e j => part L kReturn [] (fromT L i) [e] j
    else (expr L n 0 i).next fun a j =>
      if isT L [61] j then (expr L n 0 (j + 1)).next fun b k => part L kAssign [] (fromT L i) [a, b] k
      else if isT L [58, 61] j then (expr L n 0 (j + 1)).next fun b k => part L kDefine [] (fromT L i) [a, b] k
      else part L kExpr [] (fromT L i) [a] j
end

/-! ### Declarations -/
def func' (n : Nat) (i : Nat) : Out Pt :=
  (mustT L kFunc i).next fun _ j => (nameT L j).next fun s k => (mustT L [40] k).next fun _ m =>
    (if isT L [41] m then .ok [] (m + 1) else params L n n m []).next fun ps o =>
      (if isT L [123] o then .ok [] o else (typed L n o).next fun x q => .ok [x] q).next fun rs q =>
        (block L n q).next fun b r => part L kFunc s (fromT L i) [allP kParams ps, allP kResult rs, b] r
def record (n : Nat) (i : Nat) : Out Pt :=
  (mustT L kType i).next fun _ j => (nameT L j).next fun s k => (mustT L kStruct k).next fun _ m => (mustT L [123] m).next fun _ o =>
    (fields L n n (o + semiN L o) []).next fun l q => (mustT L [125] q).next fun _ r => part L kType s (fromT L i) l r
def decl (n : Nat) : Out Pt :=
  if isT L kFunc 0 then func' L n 0 else if isT L kVar 0 then variable' L n 0 else if isT L kType 0 then record L n 0 else .bad 0
end
mutual
def deep : Pt → Nat
  | .mk _ _ _ _ ks => deepL ks + 1
def deepL : List Pt → Nat
  | [] => 0
  | p :: r => max (deep p) (deepL r)
end
/-- What a text is as a declaration: the part, or where it is wrong, and the error. -/
def declL (size : Nat) (L : List TokP) : Option Pt × Int × Int := match decl L (16 * L.length + 64) with
  | .ok p i => if i + semiN L i < L.length then (none, fromT L (i + semiN L i), 101) else if 40 < deep p then (none, 0, 22) else (some p, 0, 0)
  | .bad i => (none, if i < L.length then fromT L i else size, 101)
end Go.Proofs.YtnjhmjkonmmomaaDoor.T
end
/- KPlain: The program's reader as a machine: what is still to be read, and the parts about it, stand in lists. It imports nothing of the program. -/
section
namespace Go.Proofs.YtnjhmjkonmmomaaDoor.K
open Go.Lib Go.Proofs.YtnjhmjkonmmomaaDoor.U Go.Proofs.YtnjhmjkonmmomaaDoor.S Go.Proofs.YtnjhmjkonmmomaaDoor.T

/-- What is read by a method. -/
inductive Mth where
  | decl | semis | noMore | name | params | result | block | fin | field | param | typeOf | stmt | returned | expr | assigned | otherwise | pre | between | ifOrBlock | text | behind | operand | called
/-- What is to be read. -/
inductive Stp where
  | m (k : Mth)
  | word (x : By)
  | lines (k : Mth)
  | more (k : Mth)
  | commas (k : Mth)
  | moreC (k : Mth)
/-- A part whose end is not yet read. -/
structure Open where
  k : By
  t : By
  f : Int
  kids : List Pt
  kf : Int
structure St where
  i : Nat
  todo : List Stp
  opn : List Open
inductive Res where
  | go (s : St)
  | wrong
  | stuck
def Open.add (a : Open) (p : Pt) (f : Int) : Open := { a with kids := a.kids ++ [p], kf := f }
def kBr : By := [40]
def strP (t : By) : Int :=
  if t = [124, 124] then 1
  else if t = [38, 38] then 2
  else if t = [61, 61] ∨ t = [33, 61] ∨ t = [60] ∨ t = [60, 61] ∨ t = [62] ∨ t = [62, 61] then 3
  else if t = [43] ∨ t = [45] then 4
  else if t = [42] ∨ t = [47] ∨ t = [37] then 5
  else 0
/-- Where the first one of parts begins, and the last one ends. -/
def spanF : List Pt → Int
  | [] => 0
  | .mk _ _ f _ _ :: _ => f
def spanE (l : List Pt) : Int := match l.getLast? with
  | some (.mk _ _ _ e _) => e
  | none => 0
/-- What a part is that ends at e. -/
def Open.close (o : Open) (e : Int) : Option Pt :=
  if o.k = kBr then o.kids.head?
  else if o.k = kParams ∨ o.k = kResult then some (.mk o.k o.t (spanF o.kids) (spanE o.kids) o.kids)
  else some (.mk o.k o.t o.f e o.kids)
def closeO (e : Int) : List Open → Option (List Open)
  | o :: a :: r => (o.close e).map fun p => a.add p o.f :: r
  | _ => none
/-- What is open on top, and holds at least as much, ends. -/
def settle (e s : Int) (o : Open) : List Open → Option (List Open)
  | [] => if o.k = kBinary ∧ s ≤ strP o.t then none else some [o]
  | a :: r => if o.k = kBinary ∧ s ≤ strP o.t then settle e s (a.add (.mk o.k o.t o.f e o.kids) o.f) r else some (o :: a :: r)
def wrapO (k : By) : List Open → Option (List Open)
  | a :: r => a.kids.getLast?.map fun p => ⟨k, [], a.kf, [p], 0⟩ :: { a with kids := a.kids.dropLast } :: r
  | [] => none
section
variable (L : List TokP) (size : Nat)
def tok (i : Nat) : TokP := (L[i]?).getD ⟨-1, [], size, size⟩
def isP (x : By) (i : Nat) : Bool := (tok L size i).t == x
def isW (x : Int) (i : Nat) : Bool := (tok L size i).w == x
def ofOpt (i : Nat) (todo : List Stp) : Option (List Open) → Res
  | some o => .go ⟨i, todo, o⟩
  | none => .stuck
def textO (t : By) : List Open → Option (List Open)
  | o :: r => some ({ o with t := t } :: r)
  | [] => none
def kindO (k : By) : List Open → Option (List Open)
  | o :: r => some ({ o with k := k } :: r)
  | [] => none
def opened (k : By) (s : St) (l : List Stp) : Res := .go ⟨s.i, l ++ s.todo, ⟨k, [], (tok L size s.i).f, [], 0⟩ :: s.opn⟩
def pushed (s : St) (l : List Stp) : Res := .go ⟨s.i, l ++ s.todo, s.opn⟩
def varDecl (s : St) : Res := opened L size kVar s [.word kVar, .m .name, .m .typeOf, .m .fin]
def ifStmt (s : St) : Res := opened L size kIf s [.word kIf, .m .expr, .m .block, .m .otherwise, .m .fin]
def blockM (s : St) : Res := opened L size kBlock s [.word [123], .lines .stmt, .word [125], .m .fin]
def exprM (s : St) : Res := pushed s [.m .pre, .m .between]
def finM (s : St) : Res := if s.i = 0 then .stuck else ofOpt s.i s.todo (closeO (tok L size (s.i - 1)).e s.opn)
def settleO (e s : Int) : List Open → Option (List Open)
  | o :: r => settle e s o r
  | [] => none
def betweenM (s : St) : Res :=
  if s.i = 0 then .stuck else
  match settleO (tok L size (s.i - 1)).e (strP (tok L size s.i).t) s.opn with
  | none => .stuck
  | some O => if 0 < strP (tok L size s.i).t then ofOpt s.i ([.m .text, .m .pre, .m .between] ++ s.todo) (wrapO kBinary O) else .go ⟨s.i, s.todo, O⟩
def execM : Mth → St → Res
  | .decl, s =>
    if isP L size kFunc s.i then opened L size kFunc s [.word kFunc, .m .name, .m .params, .m .result, .m .block, .m .fin]
    else if isP L size kVar s.i then varDecl L size s
    else if isP L size kType s.i then opened L size kType s [.word kType, .m .name, .word kStruct, .word [123], .lines .field, .word [125], .m .fin]
    else .wrong
  | .semis, s => .go { s with i := s.i + semiN L s.i }
  | .noMore, s => if isW L size (-1) s.i then .go s else .wrong
  | .name, s => if isW L size 0 s.i then ofOpt (s.i + 1) s.todo (textO (tok L size s.i).t s.opn) else .wrong
  | .params, s => opened L size kParams s [.word [40], .commas .param, .word [41], .m .fin]
  | .result, s => if isP L size [123] s.i then (if s.i = 0 then .stuck else .go ⟨s.i, s.todo, match s.opn with
      | a :: r => a.add (.mk kResult [] 0 0 []) (tok L size s.i).f :: r
      | [] => []⟩) else opened L size kResult s [.m .typeOf, .m .fin]
  | .block, s => blockM L size s
  | .fin, s => finM L size s
  | .field, s => opened L size kField s [.m .name, .m .typeOf, .m .fin]
  | .param, s => opened L size kParam s [.m .name, .m .typeOf, .m .fin]
  | .typeOf, s =>
    if isP L size [42] s.i then opened L size kStar s [.word [42], .m .typeOf, .m .fin]
    else if isP L size [91] s.i then opened L size kSlice s [.word [91], .word [93], .m .typeOf, .m .fin]
    else opened L size kName s [.m .name, .m .fin]
  | .stmt, s =>
    if isP L size kVar s.i then varDecl L size s
    else if isP L size kReturn s.i then opened L size kReturn s [.word kReturn, .m .returned, .m .fin]
    else if isP L size kIf s.i then ifStmt L size s
    else if isP L size kFor s.i then opened L size kFor s [.word kFor, .m .expr, .m .block, .m .fin]
    else if isP L size [123] s.i then blockM L size s
    else opened L size kExpr s [.m .expr, .m .assigned, .m .fin]
  | .returned, s => if isW L size 5 s.i = false ∧ isP L size [125] s.i = false then exprM s else .go s
  | .expr, s => exprM s
  | .assigned, s =>
    if isP L size [61] s.i then ofOpt (s.i + 1) ([.m .pre, .m .between] ++ s.todo) (kindO kAssign s.opn)
    else if isP L size [58, 61] s.i then ofOpt (s.i + 1) ([.m .pre, .m .between] ++ s.todo) (kindO kDefine s.opn)
    else .go s
  | .otherwise, s => if isP L size kElse s.i then pushed s [.word kElse, .m .ifOrBlock] else .go s
  | .pre, s =>
    if isP L size [38] s.i ∨ isP L size [42] s.i ∨ isP L size [45] s.i ∨ isP L size [33] s.i then opened L size kUnary s [.m .text, .m .pre, .m .fin]
    else pushed s [.m .operand, .m .behind]
  | .between, s => betweenM L size s
  | .ifOrBlock, s => if isP L size kIf s.i then ifStmt L size s else blockM L size s
  | .text, s => if s.i < L.length then ofOpt (s.i + 1) s.todo (textO (tok L size s.i).t s.opn) else .stuck
  | .behind, s =>
    if isP L size [46] s.i then ofOpt s.i ([.word [46], .m .name, .m .fin, .m .behind] ++ s.todo) (wrapO kField s.opn)
    else if isP L size [91] s.i then ofOpt s.i ([.word [91], .m .expr, .word [93], .m .fin, .m .behind] ++ s.todo) (wrapO kIndex s.opn)
    else .go s
  | .operand, s =>
    if isW L size 1 s.i then opened L size kNum s [.m .text, .m .fin]
    else if isW L size 2 s.i then opened L size kStr s [.m .text, .m .fin]
    else if isW L size 0 s.i then opened L size kId s [.m .name, .m .called, .m .fin]
    else opened L size kBr s [.word [40], .m .expr, .word [41], .m .fin]
  | .called, s =>
    if isP L size [40] s.i then
      match s.opn with
      | [] => .stuck
      | o :: r =>
        if o.t = kNew then .go ⟨s.i + 1, [.m .typeOf, .word [41]] ++ s.todo, { o with k := kNew, t := [] } :: r⟩
        else if o.t = kMake then .go ⟨s.i + 1, [.m .typeOf, .word [44], .m .expr, .word [41]] ++ s.todo, { o with k := kMake, t := [] } :: r⟩
        else .go ⟨s.i + 1, [.commas .expr, .word [41]] ++ s.todo, { o with k := kCall } :: r⟩
    else .go s
def exec : Stp → St → Res
  | .m k, s => execM L size k s
  | .word x, s => if isP L size x s.i then .go { s with i := s.i + 1 } else .wrong
  | .lines k, s => if isP L size [125] (s.i + semiN L s.i) then .go { s with i := s.i + semiN L s.i } else .go ⟨s.i + semiN L s.i, [.m k, .more k] ++ s.todo, s.opn⟩
  | .more k, s => if isW L size 5 s.i then pushed s [.lines k] else .go s
  | .commas k, s => if isP L size [41] s.i then .go s else pushed s [.m k, .moreC k]
  | .moreC k, s => if isP L size [44] s.i then pushed s [.word [44], .m k, .moreC k] else .go s
def stepS (s : St) : Res := match s.todo with
  | [] => .stuck
  | x :: r => exec L size x { s with todo := r }
/-- Some steps on, at most so many. -/
inductive Goes : Nat → St → St → Prop
  | refl (n : Nat) (s : St) : Goes n s s
  | step {n : Nat} {s s1 s2 : St} : stepS L size s = .go s1 → Goes n s1 s2 → Goes (n + 1) s s2
/-- Some steps on, a word is wrong. -/
def Falls (n : Nat) (s : St) (j : Nat) : Prop := ∃ s', Goes L size n s s' ∧ stepS L size s' = .wrong ∧ s'.i = j
end
section
variable {L : List TokP} {size : Nat}
theorem Goes.mono {n m : Nat} {s s' : St} (h : Goes L size n s s') (hm : n ≤ m) : Goes L size m s s' := by
  induction h generalizing m with
  | refl n s => exact .refl _ _
  | step h1 _ ih => obtain ⟨k, rfl⟩ : ∃ k, m = k + 1 := ⟨m - 1, by omega⟩; exact .step h1 (ih (by omega))
theorem Goes.trans {n m : Nat} {a b c : St} (h : Goes L size n a b) (k : Goes L size m b c) : Goes L size (n + m) a c := by
  induction h with
  | refl n s => exact k.mono (by omega)
  | step h1 _ ih => exact (Goes.step h1 (ih k)).mono (by omega)
theorem Goes.falls {n m j : Nat} {a b : St} (h : Goes L size n a b) (k : Falls L size m b j) : Falls L size (n + m) a j := by
  obtain ⟨s', h1, h2⟩ := k
  exact ⟨s', h.trans h1, h2⟩
theorem Falls.step {n j : Nat} {s s1 : St} (h : stepS L size s = .go s1) (k : Falls L size n s1 j) : Falls L size (n + 1) s j := by
  obtain ⟨s', h1, h2⟩ := k
  exact ⟨s', .step h h1, h2⟩
theorem Falls.now {s : St} (h : stepS L size s = .wrong) (n : Nat) : Falls L size n s s.i := ⟨s, .refl _ _, h, rfl⟩
end

/-! ### What words are -/
/-- Texts that a reader asks for. -/
def special : List By := [kFunc, kVar, kType, kStruct, kReturn, kIf, kElse, kFor, [42], [91], [93], [40], [41], [44], [123], [125], [61], [58, 61], [46], [38], [45], [33]]
def weight : List By := [[124, 124], [38, 38], [61, 61], [33, 61], [60], [60, 61], [62], [62, 61], [43], [45], [42], [47], [37]]
structure Fine (t : TokP) : Prop where
  w : t.w ≠ -1
  sp : t.t ∈ special → t.w = 4 ∨ t.w = 3
  wt : t.t ∈ weight → t.w = 4
section
variable {L : List TokP} (size : Nat) (hL : ∀ t ∈ L, Fine t)
theorem tok_in {i : Nat} (h : i < L.length) : tok L size i = L[i] := by unfold tok; rw [List.getElem?_eq_getElem h]; rfl
theorem tok_out {i : Nat} (h : ¬ i < L.length) : tok L size i = ⟨-1, [], size, size⟩ := by unfold tok; rw [List.getElem?_eq_none (by omega)]; rfl
include hL
theorem isP_is {x : By} (hx : x ∈ special) (i : Nat) : isP L size x i = isT L x i := by
  unfold isP isT
  by_cases h : i < L.length
  · rw [tok_in size h, List.getElem?_eq_getElem h]
    dsimp only
    cases h2 : (L[i].t == x) with
    | false => rfl
    | true =>
      have h3 : L[i].t = x := by simpa using h2
      have h4 := (hL _ (List.getElem_mem h)).sp (by rw [h3]; exact hx)
      rcases h4 with h4 | h4 <;> rw [h4] <;> rfl
  · rw [tok_out size h, List.getElem?_eq_none (by omega)]
    have : x ≠ [] := by rintro rfl; revert hx; decide
    simp only [beq_eq_false_iff_ne]
    exact fun e => this e.symm
theorem isW_is {x : Int} (hx : x ≠ -1) (i : Nat) : isW L size x i = comesT L x i := by
  have _hL := hL
  unfold isW comesT
  by_cases h : i < L.length
  · rw [tok_in size h, List.getElem?_eq_getElem h]
  · rw [tok_out size h, List.getElem?_eq_none (by omega)]
    simp only [beq_eq_false_iff_ne]
    exact fun e => hx e.symm
theorem isW_end (i : Nat) : isW L size (-1) i = decide (L.length ≤ i) := by
  unfold isW
  by_cases h : i < L.length
  · rw [tok_in size h]
    have h4 := (hL _ (List.getElem_mem h)).w
    rw [decide_eq_false (by omega)]
    simpa using h4
  · rw [tok_out size h, decide_eq_true (by omega)]; rfl
theorem strP_is (i : Nat) : strP (tok L size i).t = strongT L i := by
  unfold strongT
  by_cases h : i < L.length
  · rw [tok_in size h, List.getElem?_eq_getElem h]
    dsimp only
    unfold strong
    by_cases h4 : L[i].w = 4
    · rw [if_pos h4]; rfl
    · rw [if_neg h4]
      have h5 : ¬ L[i].t ∈ weight := fun e => h4 ((hL _ (List.getElem_mem h)).wt e)
      unfold weight at h5
      simp only [List.mem_cons, List.not_mem_nil, or_false, not_or] at h5
      unfold strP
      simp only [h5, if_false, or_self]
  · rw [tok_out size h, List.getElem?_eq_none (by omega)]; rfl
end
end Go.Proofs.YtnjhmjkonmmomaaDoor.K
end
/- SRef1: Contracts of the document's own answers for layer 8: figure, letter, Key, Ends. -/
section
namespace Go.Proofs.YtnjhmjkonmmomaaDoor.S
open Go.RowKit
open Go.Lib
open Go.Proofs.YtnjhmjkonmmomaaDoor.U

theorem retB {a b : Bool} (h : a = b) : Ending.returned (.bool a) = .returned (.bool b) := by rw [h]
theorem tk_cells {W : World} {k : Nat} {a b c d : Value} {t : TypeId} (h : W.heap[k]? = some (.cells #[a, b, c, d] t (0, 0))) :
    W.cell? ⟨k, 0, none⟩ = some a ∧ W.cell? ⟨k, 1, none⟩ = some b ∧ W.cell? ⟨k, 2, none⟩ = some c ∧ W.cell? ⟨k, 3, none⟩ = some d := by
  refine ⟨?_, ?_, ?_, ?_⟩ <;> (unfold World.cell?; rw [h]; rfl)
end Go.Proofs.YtnjhmjkonmmomaaDoor.S
end

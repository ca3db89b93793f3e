/- Plain facts for the program's scanner: how many bytes stand ahead of the first scalar that is not of a sort, counted byte by byte. -/
import Derived.Test.YtapjomdplibanaaDoorSTok
namespace Go.Proofs.YtapjomdplibanaaDoor.S
open Go.RowKit
open Go.Lib hiding intOf
open Go.Proofs.YtapjomdplibanaaDoor.U Go.Proofs.YtapjomdplibanaaDoor.L

theorem decodeN_high (n b0 b1 b2 b3 : Nat) (h0 : 128 ≤ b0) : 128 ≤ (decodeN n b0 b1 b2 b3).1 ∧ (1 < (decodeN n b0 b1 b2 b3).2 → 1 < n ∧ 128 ≤ b1) ∧ (2 < (decodeN n b0 b1 b2 b3).2 → 2 < n ∧ 128 ≤ b2) ∧ (3 < (decodeN n b0 b1 b2 b3).2 → 3 < n ∧ 128 ≤ b3) ∧ (decodeN n b0 b1 b2 b3).2 ≤ 4 := by
  unfold decodeN
  repeat' split
  all_goals (simp only; omega)
theorem item_low {s : ByteArray} {i : Nat} (h : i < s.size) (hc : s[i].toNat < 128) : Utf8.decode s i = (s[i].toNat, 1) := by
  rw [decode_at, Utf8W.get!_of_lt s i h, decodeN_low _ _ _ _ _ hc]
theorem item_high {s : ByteArray} {i : Nat} (h : i < s.size) (hc : 128 ≤ s[i].toNat) : 128 ≤ (Utf8.decode s i).1 ∧ ∀ j (hj : j < s.size), i ≤ j → j < i + (Utf8.decode s i).2 → 128 ≤ s[j].toNat := by
  have hd := decodeN_high (s.size - i) (s.get! i).toNat (s.get! (i + 1)).toNat (s.get! (i + 2)).toNat (s.get! (i + 3)).toNat (by rw [Utf8W.get!_of_lt s i h]; exact hc)
  rw [← decode_at] at hd
  obtain ⟨h1, h2, h3, h4, h5⟩ := hd
  refine ⟨h1, fun j hj hij hlt => ?_⟩
  have hg := fun (k : Nat) (hk : k < s.size) => Utf8W.get!_of_lt s k hk
  rcases (show j = i ∨ j = i + 1 ∨ j = i + 2 ∨ j = i + 3 by omega) with rfl | rfl | rfl | rfl
  · exact hc
  · have := (h2 (by omega)).2; rwa [hg _ hj] at this
  · have := (h3 (by omega)).2; rwa [hg _ hj] at this
  · have := (h4 (by omega)).2; rwa [hg _ hj] at this
/-- A sort of scalars, and the bytes that it has. -/
structure SortP (P : Nat → Bool) (q : UInt8 → Bool) : Prop where
  low : ∀ c : UInt8, c.toNat < 128 → P c.toNat = q c
  high : ∃ d, (∀ r, 128 ≤ r → P r = d) ∧ ∀ c : UInt8, 128 ≤ c.toNat → q c = d
theorem whileAt_skip {q : UInt8 → Bool} {s : ByteArray} {i : Nat} : ∀ k, i + k ≤ s.size → (∀ j (hj : j < s.size), i ≤ j → j < i + k → q s[j] = true) → whileAt q s (i + k) = whileAt q s i
  | 0, _, _ => rfl
  | k + 1, h, hp => by
    rw [show i + (k + 1) = (i + k) + 1 by omega, whileAt_on (by omega) (hp (i + k) (by omega) (by omega) (by omega))]
    exact whileAt_skip k (by omega) (fun j hj h1 h2 => hp j hj h1 (by omega))
theorem span_on {P : Nat → Bool} {q : UInt8 → Bool} (hS : SortP P q) {s : ByteArray} {i : Nat} (h : i < s.size) (hp : P (Utf8.decode s i).1 = true) : whileAt q s (i + (Utf8.decode s i).2) = whileAt q s i := by
  by_cases hc : s[i].toNat < 128
  · have e := item_low h hc
    rw [e] at hp ⊢
    rw [hS.low _ hc] at hp
    exact whileAt_on h hp
  · obtain ⟨d, h1, h2⟩ := hS.high
    obtain ⟨h3, h4⟩ := item_high h (by omega)
    rw [h1 _ h3] at hp
    have hw := width_le s i h
    exact whileAt_skip _ hw (fun j hj g1 g2 => by rw [h2 _ (h4 j hj g1 g2)]; exact hp)
theorem span_off {P : Nat → Bool} {q : UInt8 → Bool} (hS : SortP P q) {s : ByteArray} {i : Nat} (h : i < s.size) (hp : P (Utf8.decode s i).1 = false) : whileAt q s i = i := by
  by_cases hc : s[i].toNat < 128
  · have e := item_low h hc
    rw [e, hS.low _ hc] at hp
    exact whileAt_off h hp
  · obtain ⟨d, h1, h2⟩ := hS.high
    rw [h1 _ (item_high h (by omega)).1] at hp
    exact whileAt_off h (by rw [h2 _ (by omega)]; exact hp)
/-! ### The four sorts -/
def rLett (r : Nat) : Bool := decide ((97 ≤ r ∧ r ≤ 122) ∨ (65 ≤ r ∧ r ≤ 90) ∨ r = 95)
def rFig (r : Nat) : Bool := decide (48 ≤ r ∧ r ≤ 57)
def rName (r : Nat) : Bool := rLett r || rFig r
def rQuo (r : Nat) : Bool := decide (r ≠ 34 ∧ r ≠ 10)
def rLine (r : Nat) : Bool := decide (r ≠ 10)
def inQuo (c : UInt8) : Bool := decide (c ≠ 34 ∧ c ≠ 10)
theorem lett_r (c : UInt8) : rLett c.toNat = lett c := by
  unfold lett rLett
  have : decide (c = 95) = decide (c.toNat = 95) := by
    rw [decide_eq_decide]
    exact ⟨fun h => by rw [h]; rfl, fun h => UInt8.toNat_inj.1 h⟩
  rw [this]
  simp [UInt8.le_iff_toNat_le, Bool.or_assoc]
theorem fig_r (c : UInt8) : rFig c.toNat = figu c := by unfold figu rFig; simp [UInt8.le_iff_toNat_le]
theorem name_r (c : UInt8) : rName c.toNat = nmc c := by unfold rName nmc; rw [lett_r, fig_r]
theorem ne_r (c d : UInt8) : (c.toNat ≠ d.toNat) ↔ c ≠ d := ⟨fun h e => h (by rw [e]), fun h e => h (UInt8.toNat_inj.1 e)⟩
theorem line_r (c : UInt8) : rLine c.toNat = not10 c := by
  unfold rLine not10
  rw [decide_eq_decide]
  exact ne_r c 10
theorem quo_r (c : UInt8) : rQuo c.toNat = inQuo c := by
  unfold rQuo inQuo
  rw [decide_eq_decide]
  exact and_congr (ne_r c 34) (ne_r c 10)
theorem sort_of {P : Nat → Bool} {q : UInt8 → Bool} (h : ∀ c : UInt8, P c.toNat = q c) (d : Bool) (hd : ∀ r, 128 ≤ r → P r = d) : SortP P q :=
  ⟨fun c _ => h c, d, hd, fun c hc => by rw [← h c]; exact hd _ hc⟩
theorem sortName : SortP rName nmc := sort_of name_r false (fun r h => by unfold rName rLett rFig; simp; omega)
theorem sortFig : SortP rFig figu := sort_of fig_r false (fun r h => by unfold rFig; simp; omega)
theorem sortLine : SortP rLine not10 := sort_of line_r true (fun r h => by unfold rLine; simp; omega)
theorem sortQuo : SortP rQuo inQuo := sort_of quo_r true (fun r h => by unfold rQuo; simp; omega)
/-! ### What the program's parts make of a rest -/
theorem pre_two (l : By) : Lib.hasPrefix l [47, 47] = (match l with | a :: b :: _ => a == 47 && b == 47 | _ => false) := by
  unfold Lib.hasPrefix
  match l with
  | [] => rfl
  | [a] => simp [List.isPrefixOf]
  | a :: b :: r => simp [List.isPrefixOf, Bool.beq_comm]
theorem cmt_pre (s : ByteArray) : (Lib.hasPrefix s.toList [47, 47] = true ∧ 0 < cmtLen s.toList ∧ whileAt not10 s 0 = cmtLen s.toList) ∨ (Lib.hasPrefix s.toList [47, 47] = false ∧ cmtLen s.toList = 0) := by
  unfold whileAt
  rw [pre_two, List.drop_zero, Nat.zero_add]
  generalize s.toList = l
  match l with
  | [] => exact .inr ⟨rfl, rfl⟩
  | [a] => exact .inr ⟨rfl, rfl⟩
  | a :: b :: r =>
    by_cases h : a = 47 ∧ b = 47
    · obtain ⟨rfl, rfl⟩ := h
      refine .inl ⟨rfl, ?_, ?_⟩
      · simp only [cmtLen, and_self, if_true]; omega
      · have e : not10 47 = true := by decide
        have : (fun c : UInt8 => decide (c ≠ 10)) = not10 := rfl
        simp only [cmtLen, and_self, if_true, List.takeWhile_cons, e, List.length_cons, this]; omega
    · refine .inr ⟨?_, ?_⟩
      · simp only
        rw [Bool.and_eq_false_iff]
        by_cases h1 : a = 47
        · exact .inr (by simpa using fun h2 => h ⟨h1, h2⟩)
        · exact .inl (by simpa using h1)
      · simp only [cmtLen]; rw [if_neg h]
theorem quoTail_is : ∀ r : By, quoTail r = (if r[(r.takeWhile inQuo).length]? = some 34 then some ((r.takeWhile inQuo).length + 1) else none)
  | [] => by simp [quoTail]
  | c :: r => by
    have ih := quoTail_is r
    by_cases h10 : c = 10
    · subst h10; simp [quoTail, inQuo]
    · by_cases h34 : c = 34
      · subst h34; simp [quoTail, inQuo]
      · have hq : inQuo c = true := by simp [inQuo, h10, h34]
        simp only [quoTail, if_neg h10, if_neg h34, List.takeWhile_cons, hq, if_true, List.length_cons, List.getElem?_cons_succ, ih]
        split <;> simp
theorem quo_ends {s : ByteArray} (h0 : 0 < s.size) (hc : s[0] = 34) {k : Nat} (hk : whileAt inQuo (s.extract 1 s.size) 0 = k) :
    (1 + k = s.size ∧ quoLen s.toList = 0) ∨ ∃ h : 1 + k < s.size, (s[1 + k] = 34 ∧ quoLen s.toList = 1 + k + 1) ∨ (s[1 + k] ≠ 34 ∧ quoLen s.toList = 0) := by
  have hl := tl_drop s h0
  rw [List.drop_zero] at hl
  unfold whileAt at hk
  rw [Nat.zero_add, List.drop_zero, ext_drop] at hk
  have hle := tw_le inQuo (s.toList.drop 1)
  rw [hk, List.length_drop, tl_len] at hle
  have hql : quoLen s.toList = (match quoTail (s.toList.drop 1) with | none => 0 | some n => n + 1) := by
    rw [show quoLen s.toList = quoLen (34 :: s.toList.drop (0 + 1)) from congrArg quoLen (hl.trans (by rw [hc]))]
    simp only [quoLen, if_true]; rfl
  rw [quoTail_is, hk, List.getElem?_drop] at hql
  by_cases he : 1 + k = s.size
  · left
    refine ⟨he, ?_⟩
    rw [List.getElem?_eq_none (by rw [tl_len]; omega)] at hql
    simpa using hql
  · right
    have hlt : 1 + k < s.size := by omega
    refine ⟨hlt, ?_⟩
    rw [tl_get s hlt] at hql
    by_cases h34 : s[1 + k] = 34
    · left
      rw [h34, if_pos rfl] at hql
      refine ⟨h34, ?_⟩
      simp only at hql; omega
    · right
      refine ⟨h34, ?_⟩
      rw [if_neg (by intro e; exact h34 (Option.some.inj e))] at hql
      simpa using hql
theorem two_min (s : ByteArray) (h0 : 0 < s.size) {m : Nat} (hm : m = if 2 ≤ s.size then 2 else s.size) {t : By} (ht : (s.extract 0 m).toList = t) :
    two s.toList = ((t == [58, 61]) || (t == [61, 61]) || (t == [33, 61]) || (t == [60, 61]) || (t == [62, 61]) || (t == [38, 38]) || (t == [124, 124])) := by
  subst ht
  by_cases h2 : 2 ≤ s.size
  · rw [if_pos h2] at hm
    subst hm
    obtain ⟨t, h1, h3⟩ := two_or s h2
    rw [h1]; exact h3
  · rw [if_neg h2] at hm
    have hz : m = 1 := by omega
    subst hz
    rw [two_short s (by omega), ext_take]
    have hl := tl_len s
    match hh : s.toList with
    | [] => rw [hh] at hl; simp at hl; omega
    | [a] => simp
    | a :: b :: r => rw [hh] at hl; simp at hl; omega
theorem word_name {right : Bool} {s : ByteArray} (h0 : 0 < s.size) (hc : lett s[0] = true) : wordL right s.toList = (if keyB (s.extract 0 (whileAt nmc s 0)).toList then 3 else 0, whileAt nmc s 0) ∧ 0 < whileAt nmc s 0 ∧ whileAt nmc s 0 ≤ s.size := by
  have hn : nameLen s.toList = whileAt nmc s 0 := by
    unfold whileAt
    rw [Nat.zero_add, List.drop_zero]
    have hl := tl_drop s h0
    rw [List.drop_zero] at hl
    rw [hl]
    have : nmc s[0] = true := by unfold nmc; rw [hc]; rfl
    simp only [nameLen, hc, if_true, List.takeWhile_cons, this, List.length_cons]; omega
  have hle := name_le s.toList
  rw [hn, tl_len] at hle
  have hp : 0 < whileAt nmc s 0 := by
    rw [← hn]
    have hl := tl_drop s h0
    rw [List.drop_zero] at hl
    rw [hl]
    simp only [nameLen, hc, if_true]; omega
  refine ⟨?_, hp, hle⟩
  unfold wordL
  rw [hn, if_pos hp, ext_take]
theorem name_no {s : ByteArray} (h0 : 0 < s.size) (hc : lett s[0] = false) : nameLen s.toList = 0 := by
  have hl := tl_drop s h0
  rw [List.drop_zero] at hl
  rw [hl]
  simp [nameLen, hc]
theorem num_is (s : ByteArray) : numLen s.toList = whileAt figu s 0 := by
  unfold numLen whileAt
  rw [Nat.zero_add, List.drop_zero]
theorem num_no {s : ByteArray} (h0 : 0 < s.size) (hc : figu s[0] = false) : numLen s.toList = 0 := by
  rw [num_is, whileAt_off h0 hc]
theorem word_num {right : Bool} {s : ByteArray} (h0 : 0 < s.size) (hc : lett s[0] = false) (hf : figu s[0] = true) : wordL right s.toList = (1, whileAt figu s 0) ∧ 0 < whileAt figu s 0 ∧ whileAt figu s 0 ≤ s.size := by
  have hp : 0 < whileAt figu s 0 := by
    rw [← whileAt_on h0 hf]
    unfold whileAt; omega
  have hle : numLen s.toList ≤ s.toList.length := tw_le _ _
  rw [num_is, tl_len] at hle
  refine ⟨?_, hp, hle⟩
  unfold wordL
  rw [name_no h0 hc, if_neg (by omega), num_is, if_pos hp]
theorem quo_no {s : ByteArray} (h0 : 0 < s.size) (hc : s[0] ≠ 34) : quoLen s.toList = 0 := by
  have hl := tl_drop s h0
  rw [List.drop_zero] at hl
  rw [hl]
  simp [quoLen, hc]
theorem word_quo {right : Bool} {s : ByteArray} (h0 : 0 < s.size) (hc : lett s[0] = false) (hf : figu s[0] = false) (hq : 0 < quoLen s.toList) : wordL right s.toList = (2, quoLen s.toList) := by
  unfold wordL
  rw [name_no h0 hc, if_neg (by omega), num_no h0 hf, if_neg (by omega), if_pos hq]
theorem word_semi {right : Bool} {s : ByteArray} (h0 : 0 < s.size) (hc : s[0] = 59) : wordL right s.toList = (5, 1) := by
  have hl := tl_drop s h0
  rw [List.drop_zero] at hl
  unfold wordL
  rw [name_no h0 (by rw [hc]; decide), if_neg (by omega), num_no h0 (by rw [hc]; decide), if_neg (by omega), quo_no h0 (by rw [hc]; decide), if_neg (by omega), if_pos (by rw [hl, hc]; rfl)]
theorem word_mark {right : Bool} {s : ByteArray} (h0 : 0 < s.size) (hc : lett s[0] = false) (hf : figu s[0] = false) (hq : quoLen s.toList = 0) (h59 : s[0] ≠ 59) : wordL right s.toList = (4, markLen right s.toList) := by
  have hl := tl_drop s h0
  rw [List.drop_zero] at hl
  unfold wordL
  rw [name_no h0 hc, if_neg (by omega), num_no h0 hf, if_neg (by omega), hq, if_neg (by omega), if_neg (by rw [hl]; simpa using h59)]
end Go.Proofs.YtapjomdplibanaaDoor.S

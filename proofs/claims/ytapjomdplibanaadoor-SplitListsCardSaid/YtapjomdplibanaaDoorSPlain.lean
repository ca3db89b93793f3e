/- Plain facts about programs' words: what a scanner tells of a list of bytes; that words rise and have their text; that what their brief tells is scanned to as many, of the same kinds and texts; that the words of two programs with a byte 10 between are those of the one and of the other. It imports nothing of the program. -/
import Derived.Test.YtapjomdplibanaaDoorPlain
namespace Go.Proofs.YtapjomdplibanaaDoor.S
open Go.Lib Go.Proofs.YtapjomdplibanaaDoor.U

abbrev By := List UInt8
def lett (c : UInt8) : Bool := decide (97 ≤ c ∧ c ≤ 122) || decide (65 ≤ c ∧ c ≤ 90) || decide (c = 95)
def figu (c : UInt8) : Bool := decide (48 ≤ c ∧ c ≤ 57)
def nmc (c : UInt8) : Bool := lett c || figu c
/-- How many bytes a name has that comes. -/
def nameLen : By → Nat
  | [] => 0
  | c :: r => if lett c then 1 + (r.takeWhile nmc).length else 0
def numLen (l : By) : Nat := (l.takeWhile figu).length
def quoTail : By → Option Nat
  | [] => none
  | c :: r => if c = 10 then none else if c = 34 then some 1 else (quoTail r).map (· + 1)
def quoLen : By → Nat
  | [] => 0
  | c :: r => if c = 34 then (match quoTail r with | none => 0 | some n => n + 1) else 0
def two : By → Bool
  | a :: b :: _ => (a == 58 && b == 61) || (a == 61 && b == 61) || (a == 33 && b == 61) || (a == 60 && b == 61) || (a == 62 && b == 61) || (a == 38 && b == 38) || (a == 124 && b == 124)
  | _ => false
/-- How many bytes the first scalar has. -/
def wid (l : By) : Nat := (Utf8.decode ⟨l.toArray⟩ 0).2
def markLen (right : Bool) (l : By) : Nat := if two l then 2 else if right then wid l else 1
def keyB (x : By) : Bool := x == [102, 117, 110, 99] || x == [118, 97, 114] || x == [116, 121, 112, 101] || x == [115, 116, 114, 117, 99, 116] || x == [114, 101, 116, 117, 114, 110] || x == [105, 102] || x == [101, 108, 115, 101] || x == [102, 111, 114]
/-- The word that comes: its kind, how many bytes it has. -/
def wordL (right : Bool) (l : By) : Int × Nat :=
  if 0 < nameLen l then (if keyB (l.take (nameLen l)) then 3 else 0, nameLen l)
  else if 0 < numLen l then (1, numLen l)
  else if 0 < quoLen l then (2, quoLen l)
  else if l.head? = some 59 then (5, 1) else (4, markLen right l)
def cmtLen : By → Nat
  | a :: b :: r => if a = 47 ∧ b = 47 then 2 + (r.takeWhile (fun c => decide (c ≠ 10))).length else 0
  | _ => 0
/-- May a statement end behind a word? -/
def endsP (w : Int) (x : By) : Bool :=
  decide (w = 0 ∨ w = 1 ∨ w = 2) || (decide (w = 3) && x == [114, 101, 116, 117, 114, 110]) || (decide (w = 4) && (x == [41] || x == [93] || x == [125]))
def blank (c : UInt8) : Bool := c == 32 || c == 9 || c == 13 || c == 10
structure TokP where
  w : Int
  t : By
  f : Int
  e : Int
def scanF (right : Bool) : Nat → By → Nat → Bool → List TokP
  | 0, _, _, _ => []
  | _ + 1, [], pos, ended => if ended then [⟨5, [], pos, pos⟩] else []
  | n + 1, c :: r, pos, ended =>
    if c = 10 ∧ ended = true then ⟨5, [], pos, ((pos + 1 : Nat) : Int)⟩ :: scanF right n r (pos + 1) false
    else if blank c = true then scanF right n r (pos + 1) ended
    else if 0 < cmtLen (c :: r) then scanF right n ((c :: r).drop (cmtLen (c :: r))) (pos + cmtLen (c :: r)) ended
    else ⟨(wordL right (c :: r)).1, (c :: r).take (wordL right (c :: r)).2, pos, ((pos + (wordL right (c :: r)).2 : Nat) : Int)⟩ ::
      scanF right n ((c :: r).drop (wordL right (c :: r)).2) (pos + (wordL right (c :: r)).2) (endsP (wordL right (c :: r)).1 ((c :: r).take (wordL right (c :: r)).2))
def scanB (right : Bool) (l : By) : List TokP := scanF right (l.length + 1) l 0 false

/-! ### How long words are -/
theorem wid_bounds {l : By} (h : l ≠ []) : 1 ≤ wid l ∧ wid l ≤ l.length := by
  have hz : (⟨l.toArray⟩ : ByteArray).size = l.length := by simp [ByteArray.size]
  have h0 : 0 < (⟨l.toArray⟩ : ByteArray).size := by
    rw [hz]
    cases l with
    | nil => exact absurd rfl h
    | cons a r => simp
  have h1 := width_pos _ 0 h0
  have h2 := width_le _ 0 h0
  unfold wid
  omega
theorem two_len {l : By} (h : two l = true) : 2 ≤ l.length := by
  match l with
  | [] => simp [two] at h
  | [a] => simp [two] at h
  | a :: b :: r => simp
theorem mark_bounds (right : Bool) {l : By} (h : l ≠ []) : 1 ≤ markLen right l ∧ markLen right l ≤ l.length := by
  unfold markLen
  split
  · rename_i h2; exact ⟨by omega, two_len h2⟩
  · split
    · exact wid_bounds h
    · exact ⟨by omega, by cases l with
        | nil => exact absurd rfl h
        | cons a r => simp⟩
theorem tw_le {α : Type} (p : α → Bool) (l : List α) : (l.takeWhile p).length ≤ l.length := (List.takeWhile_sublist p).length_le
theorem name_le (l : By) : nameLen l ≤ l.length := by
  cases l with
  | nil => simp [nameLen]
  | cons c r => simp only [nameLen, List.length_cons]; have := tw_le nmc r; split <;> omega
theorem quoTail_le : ∀ (l : By) (n : Nat), quoTail l = some n → 1 ≤ n ∧ n ≤ l.length
  | [], n, h => by simp [quoTail] at h
  | c :: r, n, h => by
    simp only [quoTail] at h
    split at h
    · cases h
    · split at h
      · cases h; simp
      · cases hq : quoTail r with
        | none => rw [hq] at h; cases h
        | some m =>
          rw [hq] at h
          have := quoTail_le r m hq
          simp only [Option.map_some, Option.some.injEq] at h
          simp only [List.length_cons]
          omega
theorem quo_le (l : By) : quoLen l ≤ l.length := by
  cases l with
  | nil => simp [quoLen]
  | cons c r =>
    simp only [quoLen, List.length_cons]
    split
    · cases hq : quoTail r with
      | none => simp
      | some n => have := quoTail_le r n hq; simp only; omega
    · omega
theorem word_bounds (right : Bool) {l : By} (h : l ≠ []) : 1 ≤ (wordL right l).2 ∧ (wordL right l).2 ≤ l.length := by
  unfold wordL
  split
  · rename_i h1; exact ⟨h1, name_le l⟩
  · split
    · rename_i h1; exact ⟨h1, tw_le _ _⟩
    · split
      · rename_i h1; exact ⟨h1, quo_le l⟩
      · split
        · exact ⟨Nat.le_refl _, by cases l with
            | nil => exact absurd rfl h
            | cons a r => simp⟩
        · exact mark_bounds right h
theorem cmt_le (l : By) : cmtLen l ≤ l.length := by
  match l with
  | [] => simp [cmtLen]
  | [a] => simp [cmtLen]
  | a :: b :: r =>
    simp only [cmtLen, List.length_cons]
    have := tw_le (fun c : UInt8 => decide (c ≠ 10)) r
    split <;> omega

/-! ### Fuel, and places -/
theorem scanF_fuel (right : Bool) : ∀ (n m : Nat) (l : By) (pos : Nat) (ended : Bool), l.length < n → l.length < m → scanF right n l pos ended = scanF right m l pos ended
  | 0, _, _, _, _, h, _ => by omega
  | _ + 1, 0, _, _, _, _, h => by omega
  | n + 1, m + 1, [], pos, ended, _, _ => rfl
  | n + 1, m + 1, c :: r, pos, ended, hn, hm => by
    have hr : r.length < n ∧ r.length < m := by simp only [List.length_cons] at hn hm; omega
    have hc := cmt_le (c :: r)
    have hw := word_bounds right (l := c :: r) (by simp)
    have hd : ∀ k, 1 ≤ k → ((c :: r).drop k).length < n ∧ ((c :: r).drop k).length < m := fun k hk => by
      rw [List.length_drop]; simp only [List.length_cons] at hn hm ⊢; omega
    simp only [scanF]
    split
    · rw [scanF_fuel right n m r _ _ hr.1 hr.2]
    · split
      · exact scanF_fuel right n m r _ _ hr.1 hr.2
      · split
        · rename_i hk
          exact scanF_fuel right n m _ _ _ (hd _ hk).1 (hd _ hk).2
        · rw [scanF_fuel right n m _ _ _ (hd _ hw.1).1 (hd _ hw.1).2]
def shiftT (k : Nat) (t : TokP) : TokP := ⟨t.w, t.t, t.f + k, t.e + k⟩
theorem scanF_shift (right : Bool) (k : Nat) : ∀ (n : Nat) (l : By) (pos : Nat) (ended : Bool), scanF right n l (pos + k) ended = (scanF right n l pos ended).map (shiftT k)
  | 0, _, _, _ => rfl
  | n + 1, [], pos, ended => by
    simp only [scanF]
    split
    · simp [shiftT]
    · rfl
  | n + 1, c :: r, pos, ended => by
    simp only [scanF]
    split
    · rw [show pos + k + 1 = (pos + 1) + k by omega, scanF_shift right k n r (pos + 1) false]
      simp only [List.map_cons, shiftT]
      congr 2 <;> omega
    · split
      · rw [show pos + k + 1 = (pos + 1) + k by omega, scanF_shift right k n r (pos + 1) ended]
      · split
        · rw [show pos + k + cmtLen (c :: r) = (pos + cmtLen (c :: r)) + k by omega, scanF_shift right k n _ _ ended]
        · rw [show pos + k + (wordL right (c :: r)).2 = (pos + (wordL right (c :: r)).2) + k by omega, scanF_shift right k n _ _ _]
          simp only [List.map_cons, shiftT]
          congr 2 <;> omega

/-! ### In order -/
/-- Between two words stand blanks, bytes 10 and comments alone: what a word has behind the one ahead. -/
def Gap (s : By) (a b : Nat) : Prop := ∀ k, a ≤ k → k < b → (∃ j, a ≤ j ∧ j ≤ k ∧ s[j]? = some 47) ∨ ∃ c, s[k]? = some c ∧ blank c = true
/-- A word behind a place, with its text. -/
structure TokIn (s : By) (a : Nat) (t : TokP) (f e : Nat) : Prop where
  from_ : t.f = (f : Int)
  to : t.e = (e : Int)
  le : a ≤ f
  fe : f ≤ e
  end_ : e ≤ s.length
  gap : Gap s a f
  text : (t.w = 5 ∧ t.t = [] ∧ (s[f]? = some 10 ∨ f = s.length)) ∨ (t.t ≠ [] ∧ t.t = (s.drop f).take (e - f))
inductive Rises (s : By) : Nat → List TokP → Prop
  | nil (a : Nat) : Rises s a []
  | cons {a : Nat} {t : TokP} {f e : Nat} {r : List TokP} (h : TokIn s a t f e) (hl : (t.t = [] ∧ f = s.length) → r = []) (hr : Rises s e r) : Rises s a (t :: r)
theorem gap_nil (s : By) (a : Nat) : Gap s a a := fun k h1 h2 => by omega
theorem gap_blank {s : By} {a b : Nat} {c : UInt8} (h : Gap s a b) (hc : s[b]? = some c) (hb : blank c = true) : Gap s a (b + 1) := fun k h1 h2 => by
  by_cases hk : k < b
  · exact h k h1 hk
  · obtain rfl : k = b := by omega
    exact .inr ⟨c, hc, hb⟩
theorem gap_slash {s : By} {a b m : Nat} (h : Gap s a b) (hab : a ≤ b) (hc : s[b]? = some 47) : Gap s a (b + m) := fun k h1 h2 => by
  by_cases hk : k < b
  · exact h k h1 hk
  · exact .inl ⟨b, hab, by omega, hc⟩
theorem drop_cons {s : By} {p : Nat} {c : UInt8} {r : By} (h : s.drop p = c :: r) : s[p]? = some c ∧ p < s.length ∧ s.drop (p + 1) = r := by
  have hp : p < s.length := by
    by_cases hp : p < s.length
    · exact hp
    · rw [List.drop_of_length_le (by omega)] at h; cases h
  rw [List.drop_eq_getElem_cons hp] at h
  simp only [List.cons.injEq] at h
  exact ⟨by rw [List.getElem?_eq_getElem hp, h.1], hp, h.2⟩
theorem scanF_rises (right : Bool) (s : By) : ∀ (n : Nat) (p a : Nat) (ended : Bool), a ≤ p → p ≤ s.length → Gap s a p → Rises s a (scanF right n (s.drop p) p ended)
  | 0, _, _, _, _, _, _ => .nil _
  | n + 1, p, a, ended, hap, hps, hg => by
    cases hd : s.drop p with
    | nil =>
      have hp : p = s.length := by
        have := congrArg List.length hd
        rw [List.length_drop] at this
        simp at this; omega
      simp only [scanF]
      split
      · exact .cons (f := p) (e := p) ⟨rfl, rfl, hap, Nat.le_refl _, hps, hg, .inl ⟨rfl, rfl, .inr hp⟩⟩ (fun _ => rfl) (.nil _)
      · exact .nil _
    | cons c r =>
      obtain ⟨h1, h2, h3⟩ := drop_cons hd
      simp only [scanF]
      split
      · rename_i hc
        refine .cons (f := p) (e := p + 1) ⟨rfl, rfl, hap, by omega, by omega, hg, .inl ⟨rfl, rfl, .inl (by rw [h1, hc.1])⟩⟩ (fun h => by omega) ?_
        rw [← h3]
        exact scanF_rises right s n (p + 1) (p + 1) false (Nat.le_refl _) (by omega) (gap_nil _ _)
      · split
        · rename_i hb
          rw [← h3]
          exact scanF_rises right s n (p + 1) a ended (by omega) (by omega) (gap_blank hg h1 hb)
        · split
          · rename_i hk
            have hc47 : c = 47 := by
              match r, hk with
              | [], hk => simp [cmtLen] at hk
              | b :: r', hk =>
                simp only [cmtLen] at hk
                split at hk
                · rename_i h; exact h.1
                · omega
            have hle := cmt_le (c :: r)
            rw [← hd, List.drop_drop]
            rw [← hd, List.length_drop] at hle
            exact scanF_rises right s n _ a ended (by omega) (by omega) (gap_slash hg hap (by rw [h1, hc47]))
          · have hw := word_bounds right (l := c :: r) (by simp)
            obtain ⟨m, hm⟩ : ∃ m, (wordL right (c :: r)).2 = m := ⟨_, rfl⟩
            rw [hm] at hw ⊢
            have hle := hw.2
            rw [← hd, List.length_drop] at hle
            refine .cons (f := p) (e := p + m) ⟨rfl, rfl, hap, by omega, by omega, hg, .inr ⟨?_, ?_⟩⟩ (fun h => absurd h.1 ?_) ?_
            · simp only
              intro h
              have := congrArg List.length h
              rw [List.length_take] at this
              simp only [List.length_cons, List.length_nil] at this hw
              omega
            · simp only
              rw [hd, show p + m - p = m by omega]
            · simp only
              intro h
              have := congrArg List.length h
              rw [List.length_take] at this
              simp only [List.length_cons, List.length_nil] at this hw
              omega
            · rw [← hd, List.drop_drop]
              exact scanF_rises right s n _ _ _ (Nat.le_refl _) (by omega) (gap_nil _ _)
theorem scan_rises (right : Bool) (s : By) : Rises s 0 (scanB right s) := by
  have := scanF_rises right s (s.length + 1) 0 0 false (Nat.le_refl _) (Nat.zero_le _) (gap_nil _ _)
  rw [List.drop_zero] at this
  exact this
end Go.Proofs.YtapjomdplibanaaDoor.S

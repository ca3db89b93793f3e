/- What is read weighs no more than what was taken of the text. What is read weighs no more than the text. One blank behind a text: texts and numbers are read as before. One blank behind a text: values are read as before. Blanks about a text change nothing. -/
import Derived.Test.YtfjdeacpdcnjpaaGreatDoorVTold2
import Derived.Test.YtfjdeacpdcnjpaaGreatDoorVLen
namespace Go.Proofs.YtfjdeacpdcnjpaaGreatDoor.V
open Go.RowKit
open Go.Lib

theorem unit_four {l r : List UInt8} {n : Nat} (h : unit l = some (n, r)) : r.length + 4 = l.length := by
  match l, h with
  | a :: b :: c :: d :: r', h =>
    simp only [unit, Option.map_eq_some_iff, Prod.mk.injEq] at h
    obtain ⟨m, _, _, rfl⟩ := h
    simp
theorem scalarE_four {l r : List UInt8} {n : Nat} (h : scalarE l = some (n, r)) : r.length + 4 ≤ l.length := by
  unfold scalarE at h
  cases h1 : unit l with
  | none => rw [h1] at h; cases h
  | some p =>
    obtain ⟨a, r1⟩ := p
    have hl := unit_four h1
    rw [h1] at h
    simp only at h
    split at h
    · cases h; omega
    · split at h
      · cases h
      · split at h
        · rename_i r'
          cases h2 : unit r' with
          | none => rw [h2] at h; cases h
          | some q =>
            obtain ⟨b, r2⟩ := q
            have hl2 := unit_four h2
            rw [h2] at h
            simp only at h
            split at h
            · exact absurd h (by simp)
            · have h9 := congrArg (fun o : Option (Nat × List UInt8) => o.map Prod.snd) h
              simp only [Option.map_some, Option.some.injEq] at h9
              rw [← h9]
              simp only [List.length_cons] at hl; omega
        · cases h
theorem rune_len (x : Nat) : (encodeRune x).length ≤ 4 := by
  rw [encodeRune, List.length_map]; exact (encodeRuneZ_length x).2
theorem letter_len {c : UInt8} {n : Nat} (h : escLetter c = some n) : (encodeRune n).length = 1 := by
  have hn : n ≤ 127 := by
    unfold escLetter at h
    repeat' split at h
    all_goals first | (cases h; omega) | cases h
  rw [encodeRune, encodeRuneZ_one (by omega) (by omega)]; rfl
theorem escape_wt {l r : List UInt8} {n : Nat} (h : escape l = some (n, r)) : (encodeRune n).length + r.length ≤ l.length := by
  match l, h with
  | c :: t, h =>
    simp only [escape] at h
    split at h
    · have h1 := scalarE_four h
      have h2 := rune_len n
      simp only [List.length_cons]; omega
    · simp only [Option.map_eq_some_iff, Prod.mk.injEq] at h
      obtain ⟨m, hm, rfl, rfl⟩ := h
      have := letter_len hm
      simp only [List.length_cons]; omega
theorem quoted_wt : ∀ (f : Nat) (l acc t r : List UInt8), quoted f l acc = some (t, r) → t.length + r.length + 1 ≤ acc.length + l.length
  | 0, _, _, _, _, h => by simp [quoted] at h
  | f + 1, [], _, _, _, h => by simp [quoted] at h
  | f + 1, c :: l, acc, t, r, h => by
    by_cases h1 : c = 34
    · subst h1
      simp only [quoted, if_true, Option.some.injEq, Prod.mk.injEq] at h
      obtain ⟨rfl, rfl⟩ := h
      simp only [List.length_cons]; omega
    · by_cases h2 : c < 32
      · rw [quoted_low h1 h2] at h; cases h
      · by_cases h3 : c = 92
        · cases he : escape l with
          | none => rw [quoted_wrong h1 h2 h3 he] at h; cases h
          | some p =>
            obtain ⟨x, r'⟩ := p
            rw [quoted_esc h1 h2 h3 he] at h
            have ih := quoted_wt f r' _ t r h
            have hx := escape_wt he
            rw [List.length_append] at ih
            simp only [List.length_cons]; omega
        · rw [quoted_byte h1 h2 h3] at h
          have ih := quoted_wt f l _ t r h
          rw [List.length_append] at ih
          simp only [List.length_cons, List.length_nil] at ih ⊢; omega
theorem quotedA_wt {l t r : List UInt8} (h : quotedA l = some (t, r)) : t.length + r.length + 1 ≤ l.length := by
  have := quoted_wt _ l [] t r h
  simpa using this
theorem key_wt {l k r : List UInt8} (h : key l = some (k, r)) : k.length + r.length + 2 ≤ l.length := by
  have hs := skip_len l
  unfold key at h
  split at h
  · rename_i l' heq
    rw [heq] at hs
    cases hq : quotedA l' with
    | none => rw [hq] at h; cases h
    | some p =>
      obtain ⟨k', r'⟩ := p
      have h1 := quotedA_wt hq
      have h3 := skip_len r'
      rw [hq] at h
      simp only at h
      split at h
      · rename_i heq2
        cases h
        rw [heq2] at h3
        simp only [List.length_cons] at hs h3; omega
      · cases h
  · cases h
theorem takeDrop (p : UInt8 → Bool) (l : List UInt8) : (l.takeWhile p).length + (l.dropWhile p).length = l.length := by
  rw [← List.length_append, List.takeWhile_append_dropWhile]
theorem number_wt {l r : List UInt8} {n : Int} (h : number l = some (n, r)) : r.length + 1 ≤ l.length := by
  unfold number at h
  split at h
  · rename_i m hm
    split at h
    · cases h
      have ht := takeDrop numB l
      have hne : l.takeWhile numB ≠ [] := by intro h0; rw [h0] at hm; cases hm
      have := List.length_pos_iff.2 hne
      omega
    · cases h
  · cases h
theorem prefix_len {a l : List UInt8} (h : a.isPrefixOf l = true) : a.length + (l.drop a.length).length = l.length := by
  obtain ⟨t, rfl⟩ := List.isPrefixOf_iff_prefix.1 h
  rw [List.drop_left, List.length_append]
theorem plain_wt {l r : List UInt8} {v : Val} (h : plain l = some (v, r)) : wt v + r.length ≤ l.length := by
  unfold plain at h
  split at h
  · rename_i hp
    cases h
    have := prefix_len hp
    simp only [wt, Val.null, wtL]; simp at this ⊢; omega
  · split at h
    · rename_i hp
      cases h
      have := prefix_len hp
      simp only [wt, Val.bool, wtL]; simp at this ⊢; omega
    · split at h
      · rename_i hp
        cases h
        have := prefix_len hp
        simp only [wt, Val.bool, wtL]; simp at this ⊢; omega
      · split at h
        · rename_i l'
          simp only [Option.map_eq_some_iff] at h
          obtain ⟨⟨t, r'⟩, hq, he⟩ := h
          cases he
          have h1 := quotedA_wt hq
          simp only [wt, Val.str, wtL]; simp; omega
        · simp only [Option.map_eq_some_iff] at h
          obtain ⟨⟨n, r'⟩, hq, he⟩ := h
          cases he
          have h1 := number_wt hq
          simp only [wt, Val.num, wtL]; simp; omega
end Go.Proofs.YtfjdeacpdcnjpaaGreatDoor.V

namespace Go.Proofs.YtfjdeacpdcnjpaaGreatDoor.V
open Go.RowKit
open Go.Lib

theorem wtL_snoc : ∀ (l : List Val) (v : Val), wtL (l ++ [v]) = wtL l + wt v
  | [], v => by simp [wtL]
  | x :: r, v => by simp only [List.cons_append, wtL, wtL_snoc r v]; omega
def sumK (ks : List (List UInt8)) : Nat := (ks.map fun k => k.length + 1).sum
theorem sumK_snoc (ks : List (List UInt8)) (k : List UInt8) : sumK (ks ++ [k]) = sumK ks + (k.length + 1) := by simp [sumK]

theorem weighs : ∀ f : Nat,
    (∀ (d : Nat) (l : List UInt8) (v : Val) (r : List UInt8), value f d l = .ok v r → wt v + r.length ≤ l.length) ∧
    (∀ (d : Nat) (l : List UInt8) (acc vs : List Val) (r : List UInt8), items f d l acc = .ok vs r → wtL vs + r.length + 1 ≤ wtL acc + l.length) ∧
    (∀ (d : Nat) (l : List UInt8) (ks : List (List UInt8)) (vs : List Val) (p : List (List UInt8) × List Val) (r : List UInt8), fields f d l ks vs = .ok p r → wtL p.2 + sumK p.1 + r.length + 1 ≤ wtL vs + sumK ks + l.length)
  | 0 => ⟨fun d l v r h => by simp [value] at h, fun d l acc vs r h => by simp [items] at h, fun d l ks vs p r h => by simp [fields] at h⟩
  | f + 1 => by
    obtain ⟨IV, II, IF⟩ := weighs f
    refine ⟨?_, ?_, ?_⟩
    · intro d l0 v r h
      have hs := skip_len l0
      rw [value] at h
      split at h
      · rename_i l' heq
        rw [heq, List.length_cons] at hs
        have hs2 := skip_len l'
        split at h
        · cases h
        · split at h
          · rename_i r' heq2
            cases h
            have hs3 := skip_len r'
            rw [heq2, List.length_cons] at hs2
            simp only [wt, Val.arr, wtL]; simp; omega
          · cases hi : items f (d + 1) (skip l') [] with
            | bad => rw [hi] at h; cases h
            | deep => rw [hi] at h; cases h
            | ok vs r' =>
              rw [hi] at h
              cases h
              have h1 := II (d + 1) _ [] vs r' hi
              have hs3 := skip_len r'
              simp only [wtL] at h1
              simp only [wt, Val.arr]; simp; omega
      · rename_i l' heq
        rw [heq, List.length_cons] at hs
        have hs2 := skip_len l'
        split at h
        · cases h
        · split at h
          · rename_i r' heq2
            cases h
            have hs3 := skip_len r'
            rw [heq2, List.length_cons] at hs2
            simp only [wt, Val.rcd, wtL]; simp; omega
          · cases hi : fields f (d + 1) (skip l') [] [] with
            | bad => rw [hi] at h; cases h
            | deep => rw [hi] at h; cases h
            | ok p r' =>
              rw [hi] at h
              cases h
              have h1 := IF (d + 1) _ [] [] p r' hi
              have hs3 := skip_len r'
              simp only [wtL, show sumK [] = 0 from rfl] at h1
              simp only [sumK] at h1
              simp only [wt, Val.rcd]; simp only [List.length_nil]; omega
      · cases hp : plain (skip l0) with
        | none => rw [hp] at h; cases h
        | some q =>
          obtain ⟨v', r'⟩ := q
          rw [hp] at h
          cases h
          have h1 := plain_wt hp
          have hs3 := skip_len r'
          omega
    · intro d l acc vs r h
      rw [items] at h
      cases hi : value f d l with
      | bad => rw [hi] at h; cases h
      | deep => rw [hi] at h; cases h
      | ok v r1 =>
        have h1 := IV d l v r1 hi
        rw [hi] at h
        simp only at h
        split at h
        · cases h
          rw [wtL_snoc]
          simp only [List.length_cons] at h1; omega
        · have h2 := II d _ _ vs r h
          rw [wtL_snoc] at h2
          simp only [List.length_cons] at h1; omega
        · cases h
    · intro d l ks vs p r h
      rw [fields] at h
      cases hq : key l with
      | none => rw [hq] at h; cases h
      | some q =>
        obtain ⟨k, r0⟩ := q
        have k1 := key_wt hq
        rw [hq] at h
        simp only at h
        split at h
        · cases h
        · cases hi : value f d r0 with
          | bad => rw [hi] at h; cases h
          | deep => rw [hi] at h; cases h
          | ok v r1 =>
            have h1 := IV d r0 v r1 hi
            rw [hi] at h
            simp only at h
            split at h
            · cases h
              rw [wtL_snoc, sumK_snoc]
              simp only [List.length_cons] at h1; omega
            · have h2 := IF d _ _ _ p r h
              rw [wtL_snoc, sumK_snoc] at h2
              simp only [List.length_cons] at h1; omega
            · cases h

theorem readB_wt {s : ByteArray} {v : Val} (h : readB s = .ok v) : wt v ≤ s.size := by
  unfold readB at h
  split at h
  · unfold readP at h
    cases hi : value (2 * s.data.toList.length + 1) 0 s.data.toList with
    | bad => rw [hi] at h; cases h
    | deep => rw [hi] at h; cases h
    | ok v' r =>
      have h1 := (weighs _).1 0 _ _ _ hi
      rw [hi] at h
      cases r with
      | nil =>
        cases h
        have : s.data.toList.length = s.size := by simp
        omega
      | cons c t => cases h
  · cases h
end Go.Proofs.YtfjdeacpdcnjpaaGreatDoor.V

namespace Go.Proofs.YtfjdeacpdcnjpaaGreatDoor.V
open Go.RowKit
open Go.Lib

/-- What a blank is not. -/
structure Bl (b : UInt8) : Prop where
  blank : blank b = true
  hex : hexv b = none
  letter : escLetter b = none
  num : numB b = false
  ne : b ≠ 34 ∧ b ≠ 92 ∧ b ≠ 117 ∧ b ≠ 58 ∧ b ≠ 91 ∧ b ≠ 93 ∧ b ≠ 123 ∧ b ≠ 125 ∧ b ≠ 44
theorem bl_of {b : UInt8} (h : b = 32 ∨ b = 9 ∨ b = 10 ∨ b = 13) : Bl b := by
  rcases h with rfl | rfl | rfl | rfl <;> exact ⟨by decide, by decide, by decide, by decide, by decide⟩

def app (b : UInt8) {α : Type} (o : Option (α × List UInt8)) : Option (α × List UInt8) := o.map fun p => (p.1, p.2 ++ [b])

theorem unit_tail {b : UInt8} (hb : Bl b) (l : List UInt8) : unit (l ++ [b]) = app b (unit l) := by
  match l with
  | [] => rfl
  | [x] => rfl
  | [x, y] => rfl
  | [x, y, z] =>
    have : hex4 x y z b = none := by unfold hex4; rw [hb.hex]; split <;> simp_all
    simp [unit, app, this]
  | x :: y :: z :: u :: r =>
    simp only [List.cons_append, unit, app, Option.map_map]
    rfl
theorem scalarE_tail {b : UInt8} (hb : Bl b) (l : List UInt8) : scalarE (l ++ [b]) = app b (scalarE l) := by
  unfold scalarE
  rw [unit_tail hb]
  cases unit l with
  | none => rfl
  | some p =>
    obtain ⟨a, r⟩ := p
    simp only [app, Option.map_some]
    split
    · rfl
    · split
      · rfl
      · match r with
        | [] => simp
        | [x] =>
          have : b ≠ 117 := hb.ne.2.2.1
          by_cases hx : x = 92 <;> simp [hx, this]
        | x :: y :: r' =>
          by_cases hx : x = 92
          · by_cases hy : y = 117
            · subst hx; subst hy
              simp only [List.cons_append]
              rw [unit_tail hb]
              cases unit r' with
              | none => rfl
              | some q =>
                obtain ⟨c, r2⟩ := q
                simp only [app, Option.map_some]
                split <;> rfl
            · simp [hy]
          · simp [hx]
theorem escape_tail {b : UInt8} (hb : Bl b) (l : List UInt8) : escape (l ++ [b]) = app b (escape l) := by
  match l with
  | [] =>
    have h1 : b ≠ 117 := hb.ne.2.2.1
    simp [escape, app, h1, hb.letter]
  | c :: t =>
    simp only [List.cons_append, escape]
    split
    · exact scalarE_tail hb t
    · simp only [app, Option.map_map]; rfl
theorem quoted_tail {b : UInt8} (hb : Bl b) : ∀ (f g : Nat) (l acc : List UInt8), l.length < f → l.length + 1 < g → quoted g (l ++ [b]) acc = app b (quoted f l acc)
  | 0, _, _, _, h, _ => absurd h (Nat.not_lt_zero _)
  | f + 1, 0, _, _, _, h => absurd h (Nat.not_lt_zero _)
  | f + 1, g + 1, [], acc, _, hg => by
    obtain ⟨g, rfl⟩ : ∃ k, g = k + 1 := ⟨g - 1, by simp at hg; omega⟩
    have h1 : b ≠ 34 := hb.ne.1
    have h2 : b ≠ 92 := hb.ne.2.1
    by_cases h3 : b < 32 <;> simp [quoted, app, h1, h2, h3]
  | f + 1, g + 1, c :: l, acc, hf, hg => by
    have hf' : l.length < f := by simpa using hf
    have hg' : l.length + 1 < g := by simpa using hg
    by_cases h1 : c = 34
    · subst h1; simp [quoted, app]
    · by_cases h2 : c < 32
      · rw [List.cons_append, quoted_low h1 h2, quoted_low h1 h2]; rfl
      · by_cases h3 : c = 92
        · have het := escape_tail hb l
          cases he : escape l with
          | none =>
            rw [he] at het
            rw [List.cons_append, quoted_wrong h1 h2 h3 het, quoted_wrong h1 h2 h3 he]; rfl
          | some p =>
            obtain ⟨x, r'⟩ := p
            rw [he] at het
            have hl := escape_len he
            rw [List.cons_append, quoted_esc h1 h2 h3 het, quoted_esc h1 h2 h3 he]
            exact quoted_tail hb f g r' _ (by omega) (by omega)
        · rw [List.cons_append, quoted_byte h1 h2 h3, quoted_byte h1 h2 h3]
          exact quoted_tail hb f g l _ hf' hg'
theorem quotedA_tail {b : UInt8} (hb : Bl b) (l : List UInt8) : quotedA (l ++ [b]) = app b (quotedA l) :=
  quoted_tail hb _ _ l [] (by omega) (by simp)
end Go.Proofs.YtfjdeacpdcnjpaaGreatDoor.V

namespace Go.Proofs.YtfjdeacpdcnjpaaGreatDoor.V
open Go.RowKit
open Go.Lib

def T (b : UInt8) (r : List UInt8) : List UInt8 := if r = [] then [] else r ++ [b]
theorem skip_tail {b : UInt8} (hb : Bl b) : ∀ (l : List UInt8), skip (l ++ [b]) = T b (skip l)
  | [] => by simp [skip, T, hb.blank]
  | c :: t => by
    cases hc : blank c with
    | true =>
      have ih := skip_tail hb t
      have e1 : skip (c :: t ++ [b]) = skip (t ++ [b]) := by simp [skip, hc]
      have e2 : skip (c :: t) = skip t := by simp [skip, hc]
      rw [e1, e2, ih]
    | false =>
      have e1 : skip (c :: t ++ [b]) = c :: t ++ [b] := by simp [skip, hc]
      have e2 : skip (c :: t) = c :: t := by simp [skip, hc]
      rw [e1, e2]; simp [T]
theorem skip_skip (l : List UInt8) : skip (skip l) = skip l := by
  unfold skip
  induction l with
  | nil => rfl
  | cons c t ih =>
    cases hc : blank c with
    | true => simp only [List.dropWhile, hc]; exact ih
    | false => simp only [List.dropWhile, hc]
theorem skip_app {b : UInt8} (hb : Bl b) {r : List UInt8} : skip (r ++ [b]) = T b (skip r) := skip_tail hb r

theorem key_tail {b : UInt8} (hb : Bl b) (l : List UInt8) : key (l ++ [b]) = app b (key l) := by
  unfold key
  rw [skip_tail hb]
  match hs : skip l with
  | [] => simp [T, app]
  | c :: t =>
    by_cases hc : c = 34
    · subst hc
      have hT : T b (34 :: t) = 34 :: (t ++ [b]) := by simp [T]
      rw [hT]
      simp only
      rw [quotedA_tail hb]
      cases hq : quotedA t with
      | none => rfl
      | some p =>
        obtain ⟨k, r'⟩ := p
        simp only [app, Option.map_some]
        rw [skip_tail hb]
        match hs2 : skip r' with
        | [] => simp [T]
        | x :: y =>
          by_cases hx : x = 58
          · subst hx; simp [T]
          · simp [T, hx]
    · simp [T, hc, app]
theorem number_tail {b : UInt8} (hb : Bl b) (l : List UInt8) : number (l ++ [b]) = app b (number l) := by
  have ht : (l ++ [b]).takeWhile numB = l.takeWhile numB ∧ (l ++ [b]).dropWhile numB = l.dropWhile numB ++ [b] := by
    induction l with
    | nil => simp [List.takeWhile, List.dropWhile, hb.num]
    | cons c t ih =>
      cases hc : numB c with
      | true => simp only [List.cons_append, List.takeWhile, List.dropWhile, hc]; exact ⟨by rw [ih.1], ih.2⟩
      | false => simp only [List.cons_append, List.takeWhile, List.dropWhile, hc]; exact ⟨trivial, trivial⟩
  unfold number
  rw [ht.1, ht.2]
  split
  · split <;> rfl
  · rfl
theorem prefix_tail {a : List UInt8} {b : UInt8} (ha : ¬ b ∈ a) : ∀ (l : List UInt8), a.isPrefixOf (l ++ [b]) = a.isPrefixOf l := by
  induction a with
  | nil => intro l; simp
  | cons x t ih =>
    intro l
    have hx : x ≠ b := by intro h; exact ha (by rw [h]; exact List.mem_cons_self)
    have ht : ¬ b ∈ t := fun h => ha (List.mem_cons_of_mem _ h)
    cases l with
    | nil => simp [List.isPrefixOf, hx]
    | cons c r => simp only [List.cons_append, List.isPrefixOf, ih ht r]
theorem drop_tail {a : List UInt8} {b : UInt8} {l : List UInt8} (h : a.isPrefixOf l = true) : (l ++ [b]).drop a.length = l.drop a.length ++ [b] := by
  obtain ⟨t, rfl⟩ := List.isPrefixOf_iff_prefix.1 h
  rw [List.append_assoc, List.drop_left, List.drop_left]
theorem plain_tail {b : UInt8} (hb : b = 32 ∨ b = 9 ∨ b = 10 ∨ b = 13) (l : List UInt8) (hl : l ≠ []) : plain (l ++ [b]) = app b (plain l) := by
  have hB := bl_of hb
  have n1 : ¬ b ∈ [(110 : UInt8), 117, 108, 108] := by rcases hb with rfl | rfl | rfl | rfl <;> decide
  have n2 : ¬ b ∈ [(102 : UInt8), 97, 108, 115, 101] := by rcases hb with rfl | rfl | rfl | rfl <;> decide
  have n3 : ¬ b ∈ [(116 : UInt8), 114, 117, 101] := by rcases hb with rfl | rfl | rfl | rfl <;> decide
  unfold plain
  rw [prefix_tail n1, prefix_tail n2, prefix_tail n3]
  split
  · rename_i h; have := drop_tail (b := b) h; simp only [List.length_cons, List.length_nil] at this; simp only [app, Option.map_some]; rw [← this]
  · split
    · rename_i h; have := drop_tail (b := b) h; simp only [List.length_cons, List.length_nil] at this; simp only [app, Option.map_some]; rw [← this]
    · split
      · rename_i h; have := drop_tail (b := b) h; simp only [List.length_cons, List.length_nil] at this; simp only [app, Option.map_some]; rw [← this]
      · match l, hl with
        | c :: t, _ =>
          by_cases hc : c = 34
          · subst hc
            simp only [List.cons_append]
            rw [quotedA_tail hB]
            simp only [app, Option.map_map]; rfl
          · have hn := number_tail hB (c :: t)
            simp only [List.cons_append] at hn ⊢
            split
            · rename_i heq; cases heq; exact absurd rfl hc
            · split
              · rename_i heq; cases heq; exact absurd rfl hc
              · rw [hn]; simp only [app, Option.map_map]; rfl
end Go.Proofs.YtfjdeacpdcnjpaaGreatDoor.V

namespace Go.Proofs.YtfjdeacpdcnjpaaGreatDoor.V
open Go.RowKit
open Go.Lib

def tailV (b : UInt8) {α : Type} : Res α → Res α
  | .ok v r => .ok v (T b r)
  | .bad => .bad
  | .deep => .deep
def tailI (b : UInt8) {α : Type} : Res α → Res α
  | .ok v r => .ok v (r ++ [b])
  | .bad => .bad
  | .deep => .deep
theorem plain_nil : plain [] = none := by decide +kernel
theorem value_nil : ∀ (f d : Nat), value f d [] = .bad
  | 0, _ => by simp [value]
  | f + 1, d => by
    rw [value]
    have : skip [] = [] := rfl
    rw [this]
    simp only [plain_nil]
theorem items_nil (d : Nat) (acc : List Val) : ∀ (f : Nat), items f d [] acc = .bad
  | 0 => by simp [items]
  | f + 1 => by rw [items, value_nil]
theorem fields_nil (d : Nat) (ks : List (List UInt8)) (vs : List Val) : ∀ (f : Nat), fields f d [] ks vs = .bad
  | 0 => by simp [fields]
  | f + 1 => by rw [fields]; rfl

theorem tails {b : UInt8} (hb : b = 32 ∨ b = 9 ∨ b = 10 ∨ b = 13) : ∀ f : Nat,
    (∀ (g d : Nat) (l : List UInt8), 2 * l.length + 1 ≤ f → 2 * l.length + 3 ≤ g → value g d (l ++ [b]) = tailV b (value f d l)) ∧
    (∀ (g d : Nat) (l : List UInt8) (acc : List Val), 2 * l.length + 2 ≤ f → 2 * l.length + 4 ≤ g → items g d (l ++ [b]) acc = tailI b (items f d l acc)) ∧
    (∀ (g d : Nat) (l : List UInt8) (ks : List (List UInt8)) (vs : List Val), 2 * l.length + 2 ≤ f → 2 * l.length + 4 ≤ g → fields g d (l ++ [b]) ks vs = tailI b (fields f d l ks vs))
  | 0 => ⟨fun g d l h => by omega, fun g d l acc h => by omega, fun g d l ks vs h => by omega⟩
  | f + 1 => by
    have hB := bl_of hb
    obtain ⟨IV, II, IF⟩ := tails hb f
    refine ⟨?_, ?_, ?_⟩
    · intro g d l hf hg
      obtain ⟨g, rfl⟩ : ∃ k, g = k + 1 := ⟨g - 1, by omega⟩
      have hsl := skip_len l
      rw [value, value, skip_tail hB]
      match hs : skip l with
      | [] => simp only [T, if_true, plain_nil]; rfl
      | c :: t =>
        rw [hs, List.length_cons] at hsl
        have hT : T b (c :: t) = c :: (t ++ [b]) := by simp [T]
        have hst := skip_len t
        rw [hT]
        by_cases h1 : c = 91
        · subst h1
          simp only
          split
          · rfl
          · rw [skip_tail hB]
            match hs2 : skip t with
            | [] => simp only [T, if_true, items_nil]; rfl
            | x :: y =>
              rw [hs2, List.length_cons] at hst
              have hT2 : T b (x :: y) = x :: (y ++ [b]) := by simp [T]
              rw [hT2]
              by_cases h2 : x = 93
              · subst h2
                simp only [tailV, skip_tail hB]
              · have hi := II g (d + 1) (x :: y) [] (by simp only [List.length_cons]; omega) (by simp only [List.length_cons]; omega)
                rw [List.cons_append] at hi
                split
                · rename_i heq; cases heq; exact absurd rfl h2
                · rw [hi]
                  cases hI : items f (d + 1) (x :: y) [] with
                  | ok vs r => simp [tailI, tailV, skip_tail hB, h2, hI]
                  | bad => simp [tailI, tailV, h2, hI]
                  | deep => simp [tailI, tailV, h2, hI]
        · by_cases h3 : c = 123
          · subst h3
            simp only
            split
            · rfl
            · rw [skip_tail hB]
              match hs2 : skip t with
              | [] => simp only [T, if_true, fields_nil]; rfl
              | x :: y =>
                rw [hs2, List.length_cons] at hst
                have hT2 : T b (x :: y) = x :: (y ++ [b]) := by simp [T]
                rw [hT2]
                by_cases h2 : x = 125
                · subst h2
                  simp only [tailV, skip_tail hB]
                · have hi := IF g (d + 1) (x :: y) [] [] (by simp only [List.length_cons]; omega) (by simp only [List.length_cons]; omega)
                  rw [List.cons_append] at hi
                  split
                  · rename_i heq; cases heq; exact absurd rfl h2
                  · rw [hi]
                    cases hI : fields f (d + 1) (x :: y) [] [] with
                    | ok p r => simp [tailI, tailV, skip_tail hB, h2, hI]
                    | bad => simp [tailI, tailV, h2, hI]
                    | deep => simp [tailI, tailV, h2, hI]
          · have hp := plain_tail hb (c :: t) (by simp)
            rw [List.cons_append] at hp
            split
            · rename_i heq; cases heq; exact absurd rfl h1
            · rename_i heq; cases heq; exact absurd rfl h3
            · rw [hp]
              cases hP : plain (c :: t) with
              | none => simp [app, tailV, h1, h3, hP]
              | some q => simp [app, tailV, h1, h3, hP, skip_tail hB]
    · intro g d l acc hf hg
      obtain ⟨g, rfl⟩ : ∃ k, g = k + 1 := ⟨g - 1, by omega⟩
      have hv := IV g d l (by omega) (by omega)
      rw [items, items, hv]
      cases hi : value f d l with
      | bad => rfl
      | deep => rfl
      | ok v r =>
        have hl := value_len _ _ _ _ _ hi
        simp only [tailV]
        match r with
        | [] => simp [T, tailI]
        | c :: t =>
          rw [List.length_cons] at hl
          have hT : T b (c :: t) = c :: (t ++ [b]) := by simp [T]
          rw [hT]
          by_cases h1 : c = 93
          · subst h1; rfl
          · by_cases h2 : c = 44
            · subst h2
              exact II g d t _ (by omega) (by omega)
            · simp [h1, h2, tailI]
    · intro g d l ks vs hf hg
      obtain ⟨g, rfl⟩ : ∃ k, g = k + 1 := ⟨g - 1, by omega⟩
      rw [fields, fields, key_tail hB]
      cases hq : key l with
      | none => rfl
      | some q =>
        obtain ⟨k, r0⟩ := q
        have hkl := key_len hq
        simp only [app, Option.map_some]
        split
        · rfl
        · have hv := IV g d r0 (by omega) (by omega)
          rw [hv]
          cases hi : value f d r0 with
          | bad => rfl
          | deep => rfl
          | ok v r =>
            have hl := value_len _ _ _ _ _ hi
            simp only [tailV]
            match r with
            | [] => simp [T, tailI]
            | c :: t =>
              rw [List.length_cons] at hl
              have hT : T b (c :: t) = c :: (t ++ [b]) := by simp [T]
              rw [hT]
              by_cases h1 : c = 125
              · subst h1; rfl
              · by_cases h2 : c = 44
                · subst h2
                  exact IF g d t _ _ (by omega) (by omega)
                · simp [h1, h2, tailI]

theorem value_head {b : UInt8} (hb : Bl b) : ∀ (f d : Nat) (l : List UInt8), value f d (b :: l) = value f d l
  | 0, _, _ => by simp [value]
  | f + 1, d, l => by
    have : skip (b :: l) = skip l := by simp [skip, hb.blank]
    rw [value, value, this]

/-- Blanks about a text change nothing. -/
theorem readB_blanks {b : UInt8} (hb : b = 32 ∨ b = 9 ∨ b = 10 ∨ b = 13) (l : List UInt8) : readB ⟨(b :: (l ++ [b])).toArray⟩ = readB ⟨l.toArray⟩ := by
  have hB := bl_of hb
  have hlow : b.toNat < 128 := blank_low b hB.blank
  have ho : U.okB ⟨(b :: (l ++ [b])).toArray⟩ = U.okB ⟨l.toArray⟩ := by
    rw [← U.valid_ok, ← U.valid_ok]
    show validD (b :: (l ++ [b])) = validD l
    rw [validD_cons b _ hlow, validD_split hlow]
    simp [validD_nil]
  have hp : readP (b :: (l ++ [b])) = readP l := by
    unfold readP
    have ht := (tails hb (2 * l.length + 1)).1 (2 * (b :: (l ++ [b])).length + 1) 0 l (Nat.le_refl _) (by simp; omega)
    rw [value_head hB, ht]
    cases value (2 * l.length + 1) 0 l with
    | bad => rfl
    | deep => rfl
    | ok v r =>
      cases r with
      | nil => simp [tailV, T]
      | cons c t => simp [tailV, T]
  unfold readB
  rw [ho]
  split
  · exact hp
  · rfl
end Go.Proofs.YtfjdeacpdcnjpaaGreatDoor.V

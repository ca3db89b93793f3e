/- Plain facts about programs' words: their brief, scanned again; two programs with a byte 10 between. -/
import Derived.Test.YtapjomdplibanaaDoorSPlain
namespace Go.Proofs.YtapjomdplibanaaDoor.S
open Go.Lib Go.Proofs.YtapjomdplibanaaDoor.U

/-! ### What a word's text, or a program, is followed by -/
theorem tw_stop {p : UInt8 → Bool} {d : UInt8} (hd : p d = false) (b : By) : ∀ r : By, (r ++ d :: b).takeWhile p = r.takeWhile p
  | [] => by simp [hd]
  | c :: r => by
    simp only [List.cons_append, List.takeWhile_cons]
    rw [tw_stop hd b r]
theorem tw_take (p : UInt8 → Bool) (r : By) : r.take (r.takeWhile p).length = r.takeWhile p := (List.prefix_iff_eq_take.1 (List.takeWhile_prefix p)).symm
theorem tw_tw (p : UInt8 → Bool) : ∀ r : By, (r.takeWhile p).takeWhile p = r.takeWhile p
  | [] => rfl
  | c :: r => by
    simp only [List.takeWhile_cons]
    split
    · rename_i h
      rw [List.takeWhile_cons, h, tw_tw p r]; rfl
    · rfl
/-- Nothing, or a blank. -/
def Tail (t : By) : Prop := t = [] ∨ ∃ r, t = 32 :: r
theorem tw_tail {p : UInt8 → Bool} (h32 : p 32 = false) {r t : By} (ht : Tail t) : (r.takeWhile p ++ t).takeWhile p = r.takeWhile p := by
  rcases ht with rfl | ⟨u, rfl⟩
  · rw [List.append_nil, tw_tw]
  · rw [tw_stop h32, tw_tw]
theorem quoTail_take : ∀ (r : By) (n : Nat) (t : By), quoTail r = some n → quoTail (r.take n ++ t) = some n
  | [], n, t, h => by simp [quoTail] at h
  | c :: r, n, t, h => by
    simp only [quoTail] at h
    split at h
    · cases h
    · rename_i h10
      split at h
      · rename_i h34
        cases h
        simp [quoTail, h34]
      · rename_i h34
        cases hq : quoTail r with
        | none => rw [hq] at h; cases h
        | some m =>
          rw [hq] at h
          simp only [Option.map_some, Option.some.injEq] at h
          subst h
          simp only [List.take_succ_cons, List.cons_append, quoTail, if_neg h10, if_neg h34, quoTail_take r m t hq, Option.map_some]
theorem wid_low (c : UInt8) (r : By) (h : c.toNat < 128) : wid (c :: r) = 1 := by
  have hg : ((⟨(c :: r).toArray⟩ : ByteArray).get! 0).toNat = c.toNat := by
    show ((c :: r).toArray[0]!).toNat = c.toNat
    simp
  unfold wid
  rw [decode_at, hg]
  unfold decodeN
  rw [if_pos h]

/-! ### The brief -/
def txP (t : TokP) : By := if t.w = 5 then [59] else t.t
def briefL : List TokP → By
  | [] => []
  | [t] => txP t
  | t :: u :: r => txP t ++ 32 :: briefL (u :: r)
theorem briefL_snoc : ∀ (l : List TokP) (t : TokP), briefL (l ++ [t]) = if l = [] then txP t else briefL l ++ 32 :: txP t
  | [], t => rfl
  | [u], t => by simp [briefL]
  | u :: v :: r, t => by
    have := briefL_snoc (v :: r) t
    simp only [List.cons_append, briefL] at this ⊢
    rw [this]
    simp
def kt (t : TokP) : Int × By := (t.w, if t.w = 5 then [] else t.t)
/-- A word's text, with a blank or nothing behind it, is scanned to the word. -/
def Self (t : TokP) : Prop := ∃ c x, txP t = c :: x ∧ blank c = false ∧ ∀ tl, Tail tl → cmtLen (c :: x ++ tl) = 0 ∧ ∀ right, wordL right (c :: x ++ tl) = (t.w, (c :: x).length)
theorem ends_tx (t : TokP) : endsP t.w (txP t) = endsP t.w t.t := by
  unfold txP
  by_cases h : t.w = 5
  · rw [if_pos h, h]; simp [endsP]
  · rw [if_neg h]
theorem kt_tx {w f e f' e' : Int} {t : By} : kt ⟨w, txP ⟨w, t, f, e⟩, f', e'⟩ = kt ⟨w, t, f, e⟩ := by
  unfold kt txP
  by_cases h : w = 5 <;> simp [h]
theorem self_step {t : TokP} (h : Self t) {tl : By} (ht : Tail tl) (right : Bool) (n pos : Nat) (ended : Bool) :
    scanF right (n + 1) (txP t ++ tl) pos ended = ⟨t.w, txP t, pos, ((pos + (txP t).length : Nat) : Int)⟩ :: scanF right n tl (pos + (txP t).length) (endsP t.w t.t) := by
  obtain ⟨c, x, h1, h2, h3⟩ := h
  obtain ⟨h4, h5⟩ := h3 tl ht
  have h10 : ¬ c = 10 := by
    rintro rfl
    simp [blank] at h2
  rw [← ends_tx t]
  rw [h1]
  simp only [List.cons_append] at h4 h5 ⊢
  simp only [scanF]
  rw [if_neg (fun h => h10 h.1), if_neg (by rw [h2]; simp), if_neg (by rw [h4]; omega), h5 right]
  have e1 : (c :: (x ++ tl)).take (c :: x).length = c :: x := by rw [← List.cons_append, List.take_left]
  have e2 : (c :: (x ++ tl)).drop (c :: x).length = tl := by rw [← List.cons_append, List.drop_left]
  simp only [e1, e2]
theorem scan_brief (right : Bool) : ∀ (l : List TokP) (n pos : Nat) (ended : Bool), l ≠ [] → (∀ t ∈ l, Self t) → (∀ t, l.getLast? = some t → endsP t.w t.t = false) → (briefL l).length < n →
    (scanF right n (briefL l) pos ended).map kt = l.map kt
  | [], _, _, _, h, _, _, _ => absurd rfl h
  | [t], n, pos, ended, _, hs, hl, hn => by
    obtain ⟨n, rfl⟩ : ∃ k, n = k + 1 := ⟨n - 1, by omega⟩
    have h := self_step (hs t (by simp)) (tl := []) (.inl rfl) right n pos ended
    rw [List.append_nil] at h
    simp only [briefL] at hn ⊢
    rw [h, hl t rfl]
    have hx : 1 ≤ (txP t).length := by
      obtain ⟨c, x, h1, _⟩ := hs t (by simp)
      rw [h1]; simp
    obtain ⟨n, rfl⟩ : ∃ k, n = k + 1 := ⟨n - 1, by omega⟩
    simp only [scanF, List.map_cons]
    obtain ⟨w, tt, f, e⟩ := t
    rw [kt_tx]; rfl
  | t :: u :: r, n, pos, ended, _, hs, hl, hn => by
    obtain ⟨n, rfl⟩ : ∃ k, n = k + 1 := ⟨n - 1, by omega⟩
    have h := self_step (hs t (by simp)) (tl := 32 :: briefL (u :: r)) (.inr ⟨_, rfl⟩) right n pos ended
    simp only [briefL, List.length_append, List.length_cons] at hn
    have hb : briefL (t :: u :: r) = txP t ++ 32 :: briefL (u :: r) := rfl
    have hx : 1 ≤ (txP t).length := by
      obtain ⟨c, x, h1, _⟩ := hs t (by simp)
      rw [h1]; simp
    obtain ⟨n, rfl⟩ : ∃ k, n = k + 1 := ⟨n - 1, by omega⟩
    rw [hb, h]
    have h32 : scanF right (n + 1) (32 :: briefL (u :: r)) (pos + (txP t).length) (endsP t.w t.t) = scanF right n (briefL (u :: r)) (pos + (txP t).length + 1) (endsP t.w t.t) := by
      simp only [scanF]
      rw [if_neg (fun h => absurd h.1 (by decide)), if_pos (by decide)]
    rw [h32, List.map_cons, List.map_cons, scan_brief right (u :: r) n _ _ (by simp) (fun x hx => hs x (List.mem_cons_of_mem _ hx)) (fun x hx => hl x (by rw [List.getLast?_cons_cons]; exact hx)) (by omega)]
    obtain ⟨w, tt, f, e⟩ := t
    rw [kt_tx]

/-! ### The words of a program are such -/
/-- A Mark that is a slash, a quote's beginning, or of a byte from 128 on. -/
def Bad (t : TokP) : Prop := t.w = 4 ∧ (t.t = [47] ∨ t.t = [34] ∨ ∃ c r, t.t = c :: r ∧ 128 ≤ c.toNat)
theorem word_self (right : Bool) (c : UInt8) (r : By) (f e : Int) (hb : blank c = false) (hbad : ¬ Bad ⟨(wordL right (c :: r)).1, (c :: r).take (wordL right (c :: r)).2, f, e⟩) :
    Self ⟨(wordL right (c :: r)).1, (c :: r).take (wordL right (c :: r)).2, f, e⟩ := by
  by_cases h1 : lett c = true
  · -- a name
    have hn : nameLen (c :: r) = (r.takeWhile nmc).length + 1 := by simp only [nameLen, h1, if_true]; omega
    have ht : (c :: r).take (nameLen (c :: r)) = c :: r.takeWhile nmc := by rw [hn, List.take_succ_cons, tw_take]
    have hw : wordL right (c :: r) = (if keyB (c :: r.takeWhile nmc) = true then 3 else 0, nameLen (c :: r)) := by
      unfold wordL
      rw [if_pos (by omega), ht]
    rw [hw] at hbad ⊢
    simp only [ht] at hbad ⊢
    have h5 : ¬ (if keyB (c :: r.takeWhile nmc) = true then (3 : Int) else 0) = 5 := by split <;> omega
    refine ⟨c, r.takeWhile nmc, by unfold txP; simp only; rw [if_neg h5], hb, fun tl htl => ⟨?_, fun right' => ?_⟩⟩
    · have h47 : ¬ c = 47 := by rintro rfl; simp [lett] at h1
      match hh : r.takeWhile nmc ++ tl with
      | [] => rw [List.cons_append, hh]; rfl
      | b :: u => rw [List.cons_append, hh]; simp only [cmtLen]; rw [if_neg (fun h => h47 h.1)]
    · have hn' : nameLen (c :: r.takeWhile nmc ++ tl) = (r.takeWhile nmc).length + 1 := by
        rw [List.cons_append]
        simp only [nameLen, h1, if_true]
        rw [tw_tail (by decide) htl]; omega
      unfold wordL
      rw [if_pos (by omega), hn']
      rw [show (r.takeWhile nmc).length + 1 = (c :: r.takeWhile nmc).length by simp, List.take_left]
  · have hn0 : nameLen (c :: r) = 0 := by simp [nameLen, h1]
    have hn0' : ∀ u, nameLen (c :: u) = 0 := fun u => by simp [nameLen, h1]
    by_cases h2 : figu c = true
    · -- figures
      have hn : numLen (c :: r) = (r.takeWhile figu).length + 1 := by unfold numLen; rw [List.takeWhile_cons, h2]; rfl
      have ht : (c :: r).take (numLen (c :: r)) = c :: r.takeWhile figu := by rw [hn, List.take_succ_cons, tw_take]
      have hw : wordL right (c :: r) = (1, numLen (c :: r)) := by
        unfold wordL
        rw [if_neg (by omega), if_pos (by omega)]
      rw [hw] at hbad ⊢
      simp only [ht] at hbad ⊢
      refine ⟨c, r.takeWhile figu, by unfold txP; simp, hb, fun tl htl => ⟨?_, fun right' => ?_⟩⟩
      · have h47 : ¬ c = 47 := by rintro rfl; simp [figu] at h2
        match hh : r.takeWhile figu ++ tl with
        | [] => rw [List.cons_append, hh]; rfl
        | b :: u => rw [List.cons_append, hh]; simp only [cmtLen]; rw [if_neg (fun h => h47 h.1)]
      · have hn' : numLen (c :: r.takeWhile figu ++ tl) = (r.takeWhile figu).length + 1 := by
          rw [List.cons_append]
          unfold numLen
          rw [List.takeWhile_cons, h2]
          simp only [if_true, List.length_cons]
          rw [tw_tail (by decide) htl]
        unfold wordL
        rw [if_neg (by rw [List.cons_append, hn0']; omega), if_pos (by omega), hn']
        simp
    · have hm0 : ∀ u, numLen (c :: u) = 0 := fun u => by unfold numLen; rw [List.takeWhile_cons]; simp [h2]
      by_cases h3 : 0 < quoLen (c :: r)
      · -- a quote
        have h34 : c = 34 := by
          by_cases h : c = 34
          · exact h
          · simp [quoLen, h] at h3
        subst h34
        obtain ⟨n, hq⟩ : ∃ n, quoTail r = some n := by
          cases hq : quoTail r with
          | none => simp [quoLen, hq] at h3
          | some n => exact ⟨n, rfl⟩
        have hn : quoLen (34 :: r) = n + 1 := by simp [quoLen, hq]
        have hw : wordL right (34 :: r) = (2, n + 1) := by
          unfold wordL
          rw [if_neg (by rw [hn0]; omega), if_neg (by rw [hm0]; omega), if_pos h3, hn]
        rw [hw] at hbad ⊢
        simp only [List.take_succ_cons] at hbad ⊢
        have hnl := (quoTail_le r n hq).2
        refine ⟨34, r.take n, by unfold txP; simp, hb, fun tl htl => ⟨?_, fun right' => ?_⟩⟩
        · match hh : r.take n ++ tl with
          | [] => rw [List.cons_append, hh]; rfl
          | b :: u => rw [List.cons_append, hh]; simp [cmtLen]
        · have hn' : quoLen (34 :: r.take n ++ tl) = n + 1 := by
            rw [List.cons_append]
            simp [quoLen, quoTail_take r n tl hq]
          unfold wordL
          rw [if_neg (by rw [List.cons_append, hn0']; omega), if_neg (by rw [List.cons_append, hm0]; omega), if_pos (by omega), hn']
          simp [List.length_take, Nat.min_eq_left hnl]
      · by_cases h4 : c = 59
        · subst h4
          have hw : wordL right (59 :: r) = (5, 1) := by
            unfold wordL
            rw [if_neg (by rw [hn0]; omega), if_neg (by rw [hm0]; omega), if_neg h3, if_pos (by rfl)]
          rw [hw]
          refine ⟨59, [], rfl, hb, fun tl htl => ⟨?_, fun right' => ?_⟩⟩
          · cases tl with
            | nil => rfl
            | cons b u => simp [cmtLen]
          · unfold wordL
            rw [if_neg (by rw [List.cons_append, hn0']; omega), if_neg (by rw [List.cons_append, hm0]; omega), if_neg (by simp [quoLen]), if_pos (by rfl)]
            rfl
        · have hw : wordL right (c :: r) = (4, markLen right (c :: r)) := by
            unfold wordL
            rw [if_neg (by rw [hn0]; omega), if_neg (by rw [hm0]; omega), if_neg h3, if_neg (by simpa using h4)]
          rw [hw] at hbad ⊢
          simp only at hbad ⊢
          by_cases h5 : two (c :: r) = true
          · -- a mark of two
            match r, h5 with
            | b :: u, h5 =>
              have hl : markLen right (c :: b :: u) = 2 := by unfold markLen; rw [if_pos h5]
              rw [hl] at hbad ⊢
              have h47 : ¬ c = 47 := by rintro rfl; simp [two] at h5
              have h34 : ¬ c = 34 := by rintro rfl; simp [two] at h5
              refine ⟨c, [b], by unfold txP; simp, hb, fun tl htl => ⟨?_, fun right' => ?_⟩⟩
              · simp only [List.cons_append, List.nil_append, cmtLen]; rw [if_neg (fun h => h47 h.1)]
              · have h5' : two (c :: ([b] ++ tl)) = true := by simpa [two] using h5
                unfold wordL
                rw [List.cons_append, if_neg (by rw [hn0']; omega), if_neg (by rw [hm0]; omega), if_neg (by simp [quoLen, h34]), if_neg (by simpa using h4)]
                unfold markLen
                rw [if_pos h5']; rfl
          · -- a mark of one
            have hl : markLen right (c :: r) = if right = true then wid (c :: r) else 1 := by unfold markLen; rw [if_neg h5]
            have hm := mark_bounds right (l := c :: r) (by simp)
            have hc : c.toNat < 128 := by
              by_cases h : c.toNat < 128
              · exact h
              · exfalso
                apply hbad
                obtain ⟨m, hm2⟩ : ∃ m, markLen right (c :: r) = m + 1 := ⟨markLen right (c :: r) - 1, by omega⟩
                exact ⟨rfl, .inr (.inr ⟨c, r.take m, by rw [hm2, List.take_succ_cons], by omega⟩)⟩
            have hl1 : markLen right (c :: r) = 1 := by rw [hl, wid_low c r hc]; simp
            rw [hl1] at hbad ⊢
            have h47 : ¬ c = 47 := by rintro rfl; exact hbad ⟨rfl, .inl rfl⟩
            have h34 : ¬ c = 34 := by rintro rfl; exact hbad ⟨rfl, .inr (.inl rfl)⟩
            refine ⟨c, [], by unfold txP; simp, hb, fun tl htl => ⟨?_, fun right' => ?_⟩⟩
            · cases tl with
              | nil => rfl
              | cons b u => simp only [List.cons_append, List.nil_append, cmtLen]; rw [if_neg (fun h => h47 h.1)]
            · have h5' : ¬ two (c :: tl) = true := by
                rcases htl with rfl | ⟨u, rfl⟩
                · simp [two]
                · simp [two]
              unfold wordL
              rw [List.cons_append, List.nil_append, if_neg (by rw [hn0']; omega), if_neg (by rw [hm0]; omega), if_neg (by simp [quoLen, h34]), if_neg (by simpa using h4)]
              unfold markLen
              rw [if_neg h5', wid_low c tl hc]
              simp
theorem semi_self (f e : Int) : Self ⟨5, [], f, e⟩ := by
  refine ⟨59, [], rfl, by decide, fun tl htl => ⟨?_, fun right' => ?_⟩⟩
  · cases tl with
    | nil => rfl
    | cons b u => simp [cmtLen]
  · unfold wordL
    rw [if_neg (by simp [nameLen, lett]), if_neg (by simp [numLen, figu]), if_neg (by simp [quoLen]), if_pos (by rfl)]
    rfl
theorem scanF_self (right : Bool) : ∀ (n : Nat) (l : By) (pos : Nat) (ended : Bool), ∀ t ∈ scanF right n l pos ended, ¬ Bad t → Self t
  | 0, _, _, _, t, ht, _ => by cases ht
  | n + 1, [], pos, ended, t, ht, _ => by
    simp only [scanF] at ht
    split at ht
    · rw [List.mem_singleton.1 ht]; exact semi_self _ _
    · cases ht
  | n + 1, c :: r, pos, ended, t, ht, hb => by
    simp only [scanF] at ht
    split at ht
    · rcases List.mem_cons.1 ht with rfl | ht
      · exact semi_self _ _
      · exact scanF_self right n _ _ _ t ht hb
    · split at ht
      · exact scanF_self right n _ _ _ t ht hb
      · rename_i hbl
        split at ht
        · exact scanF_self right n _ _ _ t ht hb
        · rcases List.mem_cons.1 ht with rfl | ht
          · exact word_self right c r _ _ (by simpa using hbl) hb
          · exact scanF_self right n _ _ _ t ht hb
/-- A statement does not end behind the last one. -/
theorem scanF_last (right : Bool) : ∀ (n : Nat) (l : By) (pos : Nat) (ended : Bool), l.length < n → (scanF right n l pos ended = [] → ended = false) ∧ ∀ t, (scanF right n l pos ended).getLast? = some t → endsP t.w t.t = false
  | 0, _, _, _, h => by omega
  | n + 1, [], pos, ended, _ => by
    simp only [scanF]
    cases ended
    · exact ⟨fun _ => rfl, fun t h => by simp at h⟩
    · exact ⟨fun h => by simp at h, fun t h => by simp at h; rw [← h]; rfl⟩
  | n + 1, c :: r, pos, ended, hn => by
    have hr : r.length < n := by simp only [List.length_cons] at hn; omega
    have hc := cmt_le (c :: r)
    have hw := word_bounds right (l := c :: r) (by simp)
    have hd : ∀ k, 1 ≤ k → ((c :: r).drop k).length < n := fun k hk => by
      rw [List.length_drop]; simp only [List.length_cons] at hn ⊢; omega
    have key : ∀ (t : TokP) (rest : List TokP) (E : Bool), E = endsP t.w t.t → (rest = [] → E = false) → (∀ u, rest.getLast? = some u → endsP u.w u.t = false) → ∀ u, (t :: rest).getLast? = some u → endsP u.w u.t = false := by
      intro t rest E hE h1 h2 u hu
      cases rest with
      | nil => simp at hu; rw [← hu, ← hE]; exact h1 rfl
      | cons x y => rw [List.getLast?_cons_cons] at hu; exact h2 u hu
    simp only [scanF]
    split
    · obtain ⟨h1, h2⟩ := scanF_last right n r (pos + 1) false hr
      exact ⟨fun h => by simp at h, key _ _ false rfl h1 h2⟩
    · split
      · exact scanF_last right n r (pos + 1) ended hr
      · split
        · rename_i hk
          exact scanF_last right n _ _ ended (hd _ hk)
        · obtain ⟨h1, h2⟩ := scanF_last right n _ (pos + (wordL right (c :: r)).2) (endsP (wordL right (c :: r)).1 ((c :: r).take (wordL right (c :: r)).2)) (hd _ hw.1)
          exact ⟨fun h => by simp at h, key _ _ _ rfl h1 h2⟩
/-- AGAIN. -/
theorem scan_again (right right' : Bool) (s : By) (h : ∀ t ∈ scanB right s, ¬ Bad t) : (scanB right' (briefL (scanB right s))).map kt = (scanB right s).map kt := by
  by_cases h0 : scanB right s = []
  · rw [h0]; rfl
  · have hl := scanF_last right (s.length + 1) s 0 false (by omega)
    exact scan_brief right' _ _ _ _ h0 (fun t ht => scanF_self right _ _ _ _ t ht (h t ht)) hl.2 (Nat.lt_succ_self _)

/-! ### Two programs with a byte 10 between -/
def Low (l : By) : Prop := ∀ c ∈ l, c.toNat < 128
theorem quoTail_stop (b : By) : ∀ r : By, quoTail (r ++ 10 :: b) = quoTail r
  | [] => by simp [quoTail]
  | c :: r => by simp only [List.cons_append, quoTail, quoTail_stop b r]
theorem word_stop (r1 r2 : Bool) (c : UInt8) (r b : By) (h : Low (c :: r)) : wordL r1 (c :: r ++ 10 :: b) = wordL r2 (c :: r) := by
  have hn : nameLen (c :: r ++ 10 :: b) = nameLen (c :: r) := by
    rw [List.cons_append]; simp only [nameLen, tw_stop (show nmc 10 = false by decide)]
  have hm : numLen (c :: r ++ 10 :: b) = numLen (c :: r) := by
    unfold numLen; rw [tw_stop (show figu 10 = false by decide)]
  have hq : quoLen (c :: r ++ 10 :: b) = quoLen (c :: r) := by
    rw [List.cons_append]; simp only [quoLen, quoTail_stop]
  have ht : two (c :: r ++ 10 :: b) = two (c :: r) := by
    cases r with
    | nil => simp [two]
    | cons x y => rfl
  have hk : markLen r1 (c :: r ++ 10 :: b) = markLen r2 (c :: r) := by
    unfold markLen
    rw [ht, List.cons_append, wid_low _ _ (h c (by simp)), wid_low _ _ (h c (by simp))]
    simp
  have htk : (c :: r ++ 10 :: b).take (nameLen (c :: r)) = (c :: r).take (nameLen (c :: r)) := List.take_append_of_le_length (name_le _)
  unfold wordL
  rw [hn, hm, hq, hk, htk]
  rfl
theorem cmt_stop (c : UInt8) (r b : By) : cmtLen (c :: r ++ 10 :: b) = cmtLen (c :: r) := by
  cases r with
  | nil => simp [cmtLen]
  | cons x y =>
    simp only [List.cons_append, cmtLen]
    rw [tw_stop (by decide)]
def fixT (L : Nat) (t : TokP) : TokP := if t.f = (L : Int) then ⟨t.w, t.t, t.f, t.e + 1⟩ else t
theorem scanF_join (r1 r2 : Bool) (b : By) (hb : Low b) : ∀ (n m : Nat) (x : By) (pos : Nat) (ended : Bool), (x ++ 10 :: b).length < n → x.length < m → Low x →
    ∃ k, b.length < k ∧ scanF r1 n (x ++ 10 :: b) pos ended = (scanF r2 m x pos ended).map (fixT (pos + x.length)) ++ scanF r1 k b (pos + x.length + 1) false
  | 0, _, _, _, _, h, _, _ => by omega
  | _ + 1, 0, _, _, _, _, h, _ => by omega
  | n + 1, m + 1, [], pos, ended, hn, hm, hx => by
    refine ⟨n, by simp at hn; omega, ?_⟩
    simp only [List.nil_append, scanF, List.length_nil, Nat.add_zero]
    cases ended
    · simp [blank]
    · simp [fixT]
  | n + 1, m + 1, c :: r, pos, ended, hn, hm, hx => by
    have hr : (r ++ 10 :: b).length < n ∧ r.length < m := by simp only [List.cons_append, List.length_cons] at hn hm; exact ⟨by omega, by omega⟩
    have hxr : Low r := fun d hd => hx d (by simp [hd])
    have hcl := cmt_le (c :: r)
    have hwb := word_bounds r2 (l := c :: r) (by simp)
    have hw := word_stop r1 r2 c r b hx
    have hc := cmt_stop c r b
    have hfix : ∀ (w : Int) (t : By) (e : Int), fixT (pos + (c :: r).length) ⟨w, t, pos, e⟩ = ⟨w, t, pos, e⟩ := fun w t e => by
      unfold fixT
      rw [if_neg (by simp only [List.length_cons]; omega)]
    have hdrop : ∀ k, 1 ≤ k → k ≤ (c :: r).length → (c :: r ++ 10 :: b).drop k = (c :: r).drop k ++ 10 :: b ∧ ((c :: r).drop k ++ 10 :: b).length < n ∧ ((c :: r).drop k).length < m ∧ Low ((c :: r).drop k) ∧ pos + k + ((c :: r).drop k).length = pos + (c :: r).length := fun k h1 h2 => by
      refine ⟨List.drop_append_of_le_length h2, ?_, ?_, fun d hd => hx d (List.mem_of_mem_drop hd), ?_⟩
      · rw [List.length_append, List.length_drop]; simp only [List.cons_append, List.length_cons, List.length_append] at hn h2 ⊢; omega
      · rw [List.length_drop]; simp only [List.length_cons] at hm h2 ⊢; omega
      · rw [List.length_drop]; omega
    rw [List.cons_append] at hw hc ⊢
    simp only [scanF]
    rw [hw, hc]
    split
    · obtain ⟨k, h1, h2⟩ := scanF_join r1 r2 b hb n m r (pos + 1) false hr.1 hr.2 hxr
      refine ⟨k, h1, ?_⟩
      rw [h2, List.map_cons, hfix, List.cons_append]
      simp only [List.length_cons]
      rw [show pos + 1 + r.length = pos + (r.length + 1) by omega]
    · split
      · obtain ⟨k, h1, h2⟩ := scanF_join r1 r2 b hb n m r (pos + 1) ended hr.1 hr.2 hxr
        refine ⟨k, h1, ?_⟩
        rw [h2]
        simp only [List.length_cons]
        rw [show pos + 1 + r.length = pos + (r.length + 1) by omega]
      · split
        · rename_i hk
          obtain ⟨d1, d2, d3, d4, d5⟩ := hdrop _ hk hcl
          rw [← List.cons_append, d1]
          obtain ⟨k, h1, h2⟩ := scanF_join r1 r2 b hb n m _ (pos + cmtLen (c :: r)) ended d2 d3 d4
          refine ⟨k, h1, ?_⟩
          rw [h2, d5]
        · obtain ⟨d1, d2, d3, d4, d5⟩ := hdrop _ hwb.1 hwb.2
          rw [← List.cons_append, d1, List.take_append_of_le_length hwb.2]
          obtain ⟨k, h1, h2⟩ := scanF_join r1 r2 b hb n m _ (pos + (wordL r2 (c :: r)).2) (endsP (wordL r2 (c :: r)).1 ((c :: r).take (wordL r2 (c :: r)).2)) d2 d3 d4
          refine ⟨k, h1, ?_⟩
          rw [h2, d5, List.map_cons, hfix, List.cons_append]
theorem scanF_right (r1 r2 : Bool) : ∀ (n : Nat) (l : By) (pos : Nat) (ended : Bool), Low l → scanF r1 n l pos ended = scanF r2 n l pos ended
  | 0, _, _, _, _ => rfl
  | n + 1, [], pos, ended, _ => rfl
  | n + 1, c :: r, pos, ended, h => by
    have hw : wordL r1 (c :: r) = wordL r2 (c :: r) := by
      unfold wordL markLen
      rw [wid_low _ _ (h c (by simp))]
      simp
    have hr : Low r := fun d hd => h d (by simp [hd])
    have hd : ∀ k, Low ((c :: r).drop k) := fun k d hd => h d (List.mem_of_mem_drop hd)
    simp only [scanF]
    rw [hw, scanF_right r1 r2 n r _ _ hr, scanF_right r1 r2 n r _ _ hr, scanF_right r1 r2 n _ _ _ (hd _), scanF_right r1 r2 n _ _ _ (hd _)]
/-- ONE BEHIND THE OTHER. -/
theorem scan_join (r1 r2 r3 : Bool) (a b : By) (ha : Low a) (hb : Low b) : scanB r1 (a ++ 10 :: b) = (scanB r2 a).map (fixT a.length) ++ (scanB r3 b).map (shiftT (a.length + 1)) := by
  obtain ⟨k, h1, h2⟩ := scanF_join r1 r2 b hb ((a ++ 10 :: b).length + 1) (a.length + 1) a 0 false (by omega) (by omega) ha
  unfold scanB
  rw [h2, Nat.zero_add]
  congr 1
  rw [scanF_fuel r1 k (b.length + 1) b _ _ h1 (by omega), scanF_right r1 r3 _ _ _ _ hb]
  have := scanF_shift r3 (a.length + 1) (b.length + 1) b 0 false
  rw [Nat.zero_add] at this
  exact this
end Go.Proofs.YtapjomdplibanaaDoor.S

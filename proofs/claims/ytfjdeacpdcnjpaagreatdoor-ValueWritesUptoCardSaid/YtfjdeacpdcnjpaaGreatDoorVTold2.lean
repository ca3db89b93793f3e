/- What is written of right texts is a right text. The text of a right value is a right text; so Read reads it back. A text is right on both sides of a byte below 128, or it is not right. What a scalar is encoded to is a right text. What is read of a right text is right: texts and numbers. What is read of a right text is a right value. -/
import Derived.Test.YtfjdeacpdcnjpaaGreatDoorVBack6
import Derived.Lib.ValidLaws
import Derived.Test.YtfjdeacpdcnjpaaGreatDoorVRead13
namespace Go.Proofs.YtfjdeacpdcnjpaaGreatDoor.V
open Go.RowKit
open Go.Lib

theorem accLo_ge : ∀ c : Fin 256, firstT c.val % 8 = 2 ∨ firstT c.val % 8 = 3 ∨ firstT c.val % 8 = 4 → 128 ≤ accLo (firstT c.val / 16) := by decide +kernel
theorem quoteB_high {c : UInt8} (h : 128 ≤ c.toNat) : quoteB c = [c] := by
  have h1 : ¬ c < 32 := by intro h'; have := UInt8.lt_iff_toNat_lt.1 h'; simp at this; omega
  have h2 : ¬ (c = 34 ∨ c = 92) := by
    rintro (h' | h') <;> (rw [h'] at h; simp at h)
  simp only [quoteB, if_neg h1, if_neg h2]
theorem hexd_low : ∀ k : Fin 16, (hexd k.val).toNat < 128 := by decide +kernel
theorem quoteB_low_ascii {c : UInt8} (h : c.toNat < 128) : ∀ b ∈ quoteB c, b.toNat < 128 := by
  intro b hb
  unfold quoteB at hb
  split at hb
  · have h1 := hexd_low ⟨c.toNat / 16, by have := c.toNat_lt; omega⟩
    have h2 := hexd_low ⟨c.toNat % 16, by omega⟩
    simp only [List.mem_cons, List.not_mem_nil, or_false] at hb
    rcases hb with rfl | rfl | rfl | rfl | rfl | rfl
    · decide
    · decide
    · decide
    · decide
    · exact h1
    · exact h2
  · split at hb
    · simp only [List.mem_cons, List.not_mem_nil, or_false] at hb
      rcases hb with rfl | rfl
      · decide
      · exact h
    · rw [List.mem_singleton.1 hb]; exact h
theorem valid_ascii_app (a l : List UInt8) (h : ∀ b ∈ a, b.toNat < 128) : validD (a ++ l) = validD l := by
  have := validD_ascii a.length (a ++ l) (by rw [List.take_left]; exact h)
  rw [List.drop_left] at this
  exact this

theorem valid_quote : ∀ (n : Nat) (l : List UInt8), l.length ≤ n → validD l = true → validD (l.flatMap quoteB) = true
  | _, [], _, _ => rfl
  | 0, c :: t, h, _ => by simp at h
  | n + 1, c :: t, hn, hv => by
    by_cases hc : c.toNat < 128
    · rw [validD_cons c t hc] at hv
      rw [List.flatMap_cons, valid_ascii_app _ _ (quoteB_low_ascii hc)]
      exact valid_quote n t (by simpa using hn) hv
    · have hlead := validD_lead (c :: t) (by simp) (by simp; omega)
      rw [hlead] at hv
      have hlo := accLo_ge ⟨c.toNat, c.toNat_lt⟩
      simp only at hlo
      have hq := quoteB_high (c := c) (by omega)
      simp only [List.getD_cons_zero] at hv
      generalize hf : firstT c.toNat % 8 = sz at hv hlo
      generalize hL : accLo (firstT c.toNat / 16) = lo at hv hlo
      generalize hH : accHi (firstT c.toNat / 16) = hi at hv
      have lead2 : ∀ Y : List UInt8, validD (c :: Y) = match checkN (c :: Y).length ((c :: Y).getD 1 0).toNat ((c :: Y).getD 2 0).toNat ((c :: Y).getD 3 0).toNat sz lo hi with
          | none => false
          | some k => validD ((c :: Y).drop k) := fun Y => by
        have := validD_lead (c :: Y) (by simp) (by simp; omega)
        simp only [List.getD_cons_zero] at this
        rw [hf, hL, hH] at this
        exact this
      by_cases h2 : sz = 2
      · subst h2
        replace hlo := hlo (by omega)
        match t, hn, hv with
        | [], _, hv => simp [checkN] at hv
        | x :: t, hn, hv =>
          by_cases hx : x.toNat < lo ∨ hi < x.toNat
          · simp [checkN, hx] at hv
          · have hv' : validD t = true := by simpa [checkN, hx, show ¬ t.length + 1 + 1 < 2 by omega] using hv
            rw [List.flatMap_cons, hq, List.flatMap_cons, quoteB_high (c := x) (by omega)]
            simp only [List.cons_append, List.nil_append]
            rw [lead2]
            simp only [checkN, List.length_cons, List.getD_cons_succ, List.getD_cons_zero, if_true]
            rw [if_neg (by omega)]
            exact valid_quote n t (by simp at hn; omega) hv'
      by_cases h3 : sz = 3
      · subst h3
        replace hlo := hlo (by omega)
        match t, hn, hv with
        | [], _, hv => simp [checkN] at hv
        | [x], _, hv => simp [checkN] at hv
        | x :: y :: t, hn, hv =>
          by_cases hx : x.toNat < lo ∨ hi < x.toNat ∨ y.toNat < 128 ∨ 191 < y.toNat
          · simp [checkN, hx] at hv
          · have hv' : validD t = true := by simpa [checkN, hx, show ¬ t.length + 1 + 1 + 1 < 3 by omega] using hv
            rw [List.flatMap_cons, hq, List.flatMap_cons, quoteB_high (c := x) (by omega), List.flatMap_cons, quoteB_high (c := y) (by omega)]
            simp only [List.cons_append, List.nil_append]
            rw [lead2]
            simp only [checkN, List.length_cons, List.getD_cons_succ, List.getD_cons_zero, if_true]
            rw [if_neg (by decide), if_neg (by omega)]
            exact valid_quote n t (by simp at hn; omega) hv'
      by_cases h4 : sz = 4
      · subst h4
        replace hlo := hlo (by omega)
        match t, hn, hv with
        | [], _, hv => simp [checkN] at hv
        | [x], _, hv => simp [checkN] at hv
        | [x, y], _, hv => simp [checkN] at hv
        | x :: y :: z :: t, hn, hv =>
          by_cases hx : x.toNat < lo ∨ hi < x.toNat ∨ y.toNat < 128 ∨ 191 < y.toNat ∨ z.toNat < 128 ∨ 191 < z.toNat
          · simp [checkN, hx] at hv
          · have hv' : validD t = true := by simpa [checkN, hx, show ¬ t.length + 1 + 1 + 1 + 1 < 4 by omega] using hv
            rw [List.flatMap_cons, hq, List.flatMap_cons, quoteB_high (c := x) (by omega), List.flatMap_cons, quoteB_high (c := y) (by omega), List.flatMap_cons, quoteB_high (c := z) (by omega)]
            simp only [List.cons_append, List.nil_append]
            rw [lead2]
            simp only [checkN, List.length_cons, List.getD_cons_succ, List.getD_cons_zero, if_true]
            rw [if_neg (by decide), if_neg (by decide), if_neg (by omega)]
            exact valid_quote n t (by simp at hn; omega) hv'
      · simp [checkN, h2, h3, h4] at hv
end Go.Proofs.YtfjdeacpdcnjpaaGreatDoor.V

namespace Go.Proofs.YtfjdeacpdcnjpaaGreatDoor.V
open Go.RowKit
open Go.Lib

theorem okP_valid (t : List UInt8) : okP t = validD t := (U.valid_ok ⟨t.toArray⟩).symm
theorem validD_app {a b : List UInt8} (ha : validD a = true) (hb : validD b = true) : validD (a ++ b) = true := by
  have h1 : U.okB ⟨a.toArray⟩ = true := by rw [← U.valid_ok]; exact ha
  have h2 : U.okB ⟨b.toArray⟩ = true := by rw [← U.valid_ok]; exact hb
  have h3 := U.okB_append _ _ h1 h2
  rw [← U.valid_ok] at h3
  have he : ((⟨a.toArray⟩ : ByteArray) ++ ⟨b.toArray⟩).data.toList = a ++ b := by simp
  rw [he] at h3
  exact h3
theorem validD_asc (a : List UInt8) (h : ∀ b ∈ a, b.toNat < 128) : validD a = true := by
  have := valid_ascii_app a [] h
  rw [List.append_nil] at this
  rw [this]; rfl
theorem validD_c {c : UInt8} {t : List UInt8} (h : c.toNat < 128) (ht : validD t = true) : validD (c :: t) = true := by rw [validD_cons c t h]; exact ht
theorem valid_quoteT {t : List UInt8} (h : okP t = true) : validD (quoteT t) = true := by
  rw [okP_valid] at h
  exact validD_c (by decide) (validD_app (valid_quote _ t (Nat.le_refl _) h) (by decide +kernel))
theorem keysP_ok : ∀ {ks seen : List (List UInt8)}, keysP ks seen = true → ∀ k ∈ ks, okP k = true
  | [], _, _, k, hk => absurd hk (List.not_mem_nil)
  | x :: r, seen, h, k, hk => by
    rw [keysP] at h
    simp only [Bool.and_eq_true] at h
    rcases List.mem_cons.1 hk with h1 | h1
    · rw [h1]; exact h.1.1
    · exact keysP_ok h.2 k h1

mutual
theorem valid_write : ∀ (v : Val), rightP v = true → validD (write v) = true
  | .mk so on n t l ks, h => by
    rcases right_form h with ⟨rfl, rfl, rfl, rfl, rfl, rfl⟩ | ⟨rfl, rfl, rfl, rfl, rfl⟩ | ⟨rfl, rfl, rfl, rfl, rfl, hn⟩ | ⟨rfl, rfl, rfl, rfl, rfl, ht⟩ | ⟨rfl, rfl, rfl, rfl, rfl, hl⟩ | ⟨rfl, rfl, rfl, rfl, hkl, hkp, hl⟩
    · decide +kernel
    · cases on <;> decide +kernel
    · have hw : write (.mk 2 false n [] [] []) = itoa n := by simp [write]
      rw [hw]
      refine validD_asc _ fun b hb => ?_
      have hk : ∀ k : Fin 256, numB (UInt8.ofNat k.val) = true → k.val < 128 := by decide +kernel
      have := hk ⟨b.toNat, b.toNat_lt⟩
      simp only [u8_eta] at this
      exact this (itoa_num n b hb)
    · have hw : write (.mk 3 false 0 t [] []) = quoteT t := by simp [write]
      rw [hw]; exact valid_quoteT ht
    · have hw : write (.mk 4 false 0 [] l []) = 91 :: (writeL l ++ [93]) := by simp [write]
      rw [hw]
      exact validD_c (by decide) (validD_app (valid_writeL l hl) (by decide +kernel))
    · have hw : write (.mk 5 false 0 [] l ks) = 123 :: (writeR ks l ++ [125]) := by simp [write]
      rw [hw]
      exact validD_c (by decide) (validD_app (valid_writeR l ks hl hkl (keysP_ok hkp)) (by decide +kernel))
theorem valid_writeL : ∀ (l : List Val), rightPs l = true → validD (writeL l) = true
  | [], _ => by simp only [writeL]; rfl
  | v :: r, h => by
    simp only [rightPs, Bool.and_eq_true] at h
    simp only [writeL]
    exact validD_app (valid_write v h.1) (valid_writeL1 r h.2)
theorem valid_writeL1 : ∀ (l : List Val), rightPs l = true → validD (writeL1 l) = true
  | [], _ => by simp only [writeL1]; rfl
  | v :: r, h => by
    simp only [rightPs, Bool.and_eq_true] at h
    simp only [writeL1]
    exact validD_c (by decide) (validD_app (valid_write v h.1) (valid_writeL1 r h.2))
theorem valid_writeR : ∀ (l : List Val) (ks : List (List UInt8)), rightPs l = true → ks.length = l.length → (∀ k ∈ ks, okP k = true) → validD (writeR ks l) = true
  | [], ks, _, _, _ => by simp only [writeR]; rfl
  | v :: r, [], _, hk, _ => by simp at hk
  | v :: r, k :: kr, h, hk, ho => by
    simp only [rightPs, Bool.and_eq_true] at h
    simp only [writeR, List.headD_cons, List.tail_cons]
    exact validD_app (valid_quoteT (ho k (List.mem_cons_self))) (validD_c (by decide) (validD_app (valid_write v h.1) (valid_writeR1 r kr h.2 (by simpa using hk) (fun x hx => ho x (List.mem_cons_of_mem _ hx)))))
theorem valid_writeR1 : ∀ (l : List Val) (ks : List (List UInt8)), rightPs l = true → ks.length = l.length → (∀ k ∈ ks, okP k = true) → validD (writeR1 ks l) = true
  | [], ks, _, _, _ => by simp only [writeR1]; rfl
  | v :: r, [], _, hk, _ => by simp at hk
  | v :: r, k :: kr, h, hk, ho => by
    simp only [rightPs, Bool.and_eq_true] at h
    simp only [writeR1, List.headD_cons, List.tail_cons]
    exact validD_c (by decide) (validD_app (valid_quoteT (ho k (List.mem_cons_self))) (validD_c (by decide) (validD_app (valid_write v h.1) (valid_writeR1 r kr h.2 (by simpa using hk) (fun x hx => ho x (List.mem_cons_of_mem _ hx))))))
end

/-- Read answers the value whose text it is. -/
theorem readB_write (v : Val) (h : rightTop v = true) : readB ⟨(write v).toArray⟩ = .ok v := by
  have hr : rightP v = true := by simp only [rightTop, Bool.and_eq_true] at h; exact h.2
  have ho : U.okB ⟨(write v).toArray⟩ = true := by rw [← U.valid_ok]; exact valid_write v hr
  unfold readB
  rw [if_pos ho]
  exact readP_write v h
end Go.Proofs.YtfjdeacpdcnjpaaGreatDoor.V

namespace Go.Proofs.YtfjdeacpdcnjpaaGreatDoor.V
open Go.RowKit
open Go.Lib

theorem valid_split {c : UInt8} (r : List UInt8) (hc : c.toNat < 128) : ∀ (n : Nat) (a : List UInt8), a.length ≤ n → validD (a ++ c :: r) = (validD a && validD (c :: r))
  | _, [], _ => by simp [validD_nil]
  | 0, x :: t, h => by simp at h
  | n + 1, x :: t, hn => by
    by_cases hx : x.toNat < 128
    · rw [List.cons_append, validD_cons x _ hx, validD_cons x t hx]
      exact valid_split r hc n t (by simpa using hn)
    · have hlo := accLo_ge ⟨x.toNat, x.toNat_lt⟩
      simp only at hlo
      obtain ⟨sz, hf⟩ : ∃ s, firstT x.toNat % 8 = s := ⟨_, rfl⟩
      obtain ⟨lo, hL⟩ : ∃ s, accLo (firstT x.toNat / 16) = s := ⟨_, rfl⟩
      obtain ⟨hi, hH⟩ : ∃ s, accHi (firstT x.toNat / 16) = s := ⟨_, rfl⟩
      rw [hf, hL] at hlo
      have lead2 : ∀ Y : List UInt8, validD (x :: Y) = match checkN (x :: Y).length ((x :: Y).getD 1 0).toNat ((x :: Y).getD 2 0).toNat ((x :: Y).getD 3 0).toNat sz lo hi with
          | none => false
          | some k => validD ((x :: Y).drop k) := fun Y => by
        have := validD_lead (x :: Y) (by simp) (by simp; omega)
        simp only [List.getD_cons_zero] at this
        rw [hf, hL, hH] at this
        exact this
      rw [List.cons_append, lead2, lead2]
      by_cases h2 : sz = 2
      · subst h2
        replace hlo := hlo (by omega)
        match t, hn with
        | [], _ =>
          have : c.toNat < lo := by omega
          simp [checkN, this]
        | y :: t, hn =>
          by_cases hy : y.toNat < lo ∨ hi < y.toNat
          · simp [checkN, hy]
          · have ih := valid_split r hc n t (by simp at hn; omega)
            simp only [checkN, List.length_cons, List.cons_append, List.length_append, List.getD_cons_succ, List.getD_cons_zero, if_true]
            rw [if_neg (by omega), if_neg (by omega)]
            exact ih
      by_cases h3 : sz = 3
      · subst h3
        replace hlo := hlo (by omega)
        match t, hn with
        | [], _ =>
          have : c.toNat < lo := by omega
          simp [checkN, this]
        | [y], _ => simp [checkN, hc]
        | y :: z :: t, hn =>
          by_cases hy : y.toNat < lo ∨ hi < y.toNat ∨ z.toNat < 128 ∨ 191 < z.toNat
          · simp [checkN, hy]
          · have ih := valid_split r hc n t (by simp at hn; omega)
            simp only [checkN, List.length_cons, List.cons_append, List.length_append, List.getD_cons_succ, List.getD_cons_zero, if_true]
            rw [if_neg (by decide), if_neg (by omega), if_neg (by decide), if_neg (by omega)]
            exact ih
      by_cases h4 : sz = 4
      · subst h4
        replace hlo := hlo (by omega)
        match t, hn with
        | [], _ =>
          have : c.toNat < lo := by omega
          simp [checkN, this]
        | [y], _ => simp [checkN, hc]
        | [y, z], _ => simp [checkN, hc]
        | y :: z :: u :: t, hn =>
          by_cases hy : y.toNat < lo ∨ hi < y.toNat ∨ z.toNat < 128 ∨ 191 < z.toNat ∨ u.toNat < 128 ∨ 191 < u.toNat
          · simp [checkN, hy]
          · have ih := valid_split r hc n t (by simp at hn; omega)
            simp only [checkN, List.length_cons, List.cons_append, List.length_append, List.getD_cons_succ, List.getD_cons_zero, if_true]
            rw [if_neg (by decide), if_neg (by decide), if_neg (by omega), if_neg (by decide), if_neg (by decide), if_neg (by omega)]
            exact ih
      · simp [checkN, h2, h3, h4]
theorem validD_split {a r : List UInt8} {c : UInt8} (hc : c.toNat < 128) : validD (a ++ c :: r) = (validD a && validD r) := by
  rw [valid_split r hc _ a (Nat.le_refl _), validD_cons c r hc]
end Go.Proofs.YtfjdeacpdcnjpaaGreatDoor.V

namespace Go.Proofs.YtfjdeacpdcnjpaaGreatDoor.V
open Go.RowKit
open Go.Lib

theorem ft2 : ∀ c : Fin 256, 194 ≤ c.val ∧ c.val < 224 → firstT c.val % 8 = 2 ∧ accLo (firstT c.val / 16) = 128 ∧ accHi (firstT c.val / 16) = 191 := by decide +kernel
theorem ft3 : ∀ c : Fin 256, 224 ≤ c.val ∧ c.val < 240 → firstT c.val % 8 = 3 ∧ accLo (firstT c.val / 16) = (if c.val = 224 then 160 else 128) ∧ accHi (firstT c.val / 16) = (if c.val = 237 then 159 else 191) := by decide +kernel
theorem ft4 : ∀ c : Fin 256, 240 ≤ c.val ∧ c.val < 245 → firstT c.val % 8 = 4 ∧ accLo (firstT c.val / 16) = (if c.val = 240 then 144 else 128) ∧ accHi (firstT c.val / 16) = (if c.val = 244 then 143 else 191) := by decide +kernel

theorem valid2 (b0 b1 : UInt8) (h0 : 194 ≤ b0.toNat ∧ b0.toNat < 224) (h1 : 128 ≤ b1.toNat ∧ b1.toNat ≤ 191) : validD [b0, b1] = true := by
  obtain ⟨e1, e2, e3⟩ := ft2 ⟨b0.toNat, b0.toNat_lt⟩ h0
  simp only at e1 e2 e3
  rw [validD_lead _ (by simp) (by simp; omega)]
  simp only [List.getD_cons_zero, List.getD_cons_succ, e1, e2, e3, checkN, List.length_cons, List.length_nil, if_true]
  rw [if_neg (by omega)]
  rfl
theorem valid3 (b0 b1 b2 : UInt8) (h0 : 224 ≤ b0.toNat ∧ b0.toNat < 240) (h1 : (if b0.toNat = 224 then 160 else 128) ≤ b1.toNat ∧ b1.toNat ≤ (if b0.toNat = 237 then 159 else 191)) (h2 : 128 ≤ b2.toNat ∧ b2.toNat ≤ 191) : validD [b0, b1, b2] = true := by
  obtain ⟨e1, e2, e3⟩ := ft3 ⟨b0.toNat, b0.toNat_lt⟩ h0
  simp only at e1 e2 e3
  rw [← e2, ← e3] at h1
  rw [validD_lead _ (by simp) (by simp; omega)]
  simp only [List.getD_cons_zero, List.getD_cons_succ, e1, checkN, List.length_cons, List.length_nil, if_true]
  rw [if_neg (by decide), if_neg (by omega)]
  rfl
theorem valid4 (b0 b1 b2 b3 : UInt8) (h0 : 240 ≤ b0.toNat ∧ b0.toNat < 245) (h1 : (if b0.toNat = 240 then 144 else 128) ≤ b1.toNat ∧ b1.toNat ≤ (if b0.toNat = 244 then 143 else 191)) (h2 : 128 ≤ b2.toNat ∧ b2.toNat ≤ 191) (h3 : 128 ≤ b3.toNat ∧ b3.toNat ≤ 191) : validD [b0, b1, b2, b3] = true := by
  obtain ⟨e1, e2, e3⟩ := ft4 ⟨b0.toNat, b0.toNat_lt⟩ h0
  simp only at e1 e2 e3
  rw [← e2, ← e3] at h1
  rw [validD_lead _ (by simp) (by simp; omega)]
  simp only [List.getD_cons_zero, List.getD_cons_succ, e1, checkN, List.length_cons, List.length_nil, if_true]
  rw [if_neg (by decide), if_neg (by decide), if_neg (by omega)]
  rfl
theorem u8_nat {x : Int} (h0 : 0 ≤ x) (h : x < 256) : (x.toNat.toUInt8).toNat = x.toNat := by
  show (UInt8.ofNat x.toNat).toNat = x.toNat
  rw [UInt8.toNat_ofNat']; omega
theorem valid_rune (x : Nat) : validD (encodeRune x) = true := by
  by_cases h1 : x ≤ 127
  · rw [encodeRune, encodeRuneZ_one (by omega) (by omega)]
    refine validD_asc _ fun b hb => ?_
    simp only [List.map_cons, List.map_nil, List.mem_singleton] at hb
    rw [hb, u8_nat (by omega) (by omega)]; omega
  by_cases h2 : x ≤ 2047
  · rw [encodeRune, encodeRuneZ_two (by omega) (by omega)]
    simp only [List.map_cons, List.map_nil]
    refine valid2 _ _ ?_ ?_ <;> rw [u8_nat (by omega) (by omega)] <;> omega
  by_cases h3 : (2048 ≤ (x : Int) ∧ (x : Int) < 55296) ∨ (57343 < (x : Int) ∧ (x : Int) ≤ 65535)
  · rw [encodeRune, encodeRuneZ_three h3]
    simp only [List.map_cons, List.map_nil]
    refine valid3 _ _ _ ?_ ?_ ?_
    · rw [u8_nat (by omega) (by omega)]; omega
    · rw [u8_nat (by omega) (by omega), u8_nat (by omega) (by omega)]; split <;> split <;> omega
    · rw [u8_nat (by omega) (by omega)]; omega
  by_cases h4 : 65536 ≤ (x : Int) ∧ (x : Int) ≤ 1114111
  · rw [encodeRune, encodeRuneZ_four h4.1 h4.2]
    simp only [List.map_cons, List.map_nil]
    refine valid4 _ _ _ _ ?_ ?_ ?_ ?_
    · rw [u8_nat (by omega) (by omega)]; omega
    · rw [u8_nat (by omega) (by omega), u8_nat (by omega) (by omega)]; split <;> split <;> omega
    · rw [u8_nat (by omega) (by omega)]; omega
    · rw [u8_nat (by omega) (by omega)]; omega
  · rw [encodeRune, encodeRuneZ_bad (by omega)]
    decide +kernel
end Go.Proofs.YtfjdeacpdcnjpaaGreatDoor.V

namespace Go.Proofs.YtfjdeacpdcnjpaaGreatDoor.V
open Go.RowKit
open Go.Lib

theorem validD_dropWhile {p : UInt8 → Bool} (hp : ∀ c, p c = true → c.toNat < 128) : ∀ (l : List UInt8), validD l = true → validD (l.dropWhile p) = true
  | [], h => h
  | c :: r, h => by
    simp only [List.dropWhile]
    cases hc : p c with
    | true => exact validD_dropWhile hp r (by rw [validD_cons c r (hp c hc)] at h; exact h)
    | false => exact h
theorem blank_low (c : UInt8) (h : blank c = true) : c.toNat < 128 := by
  have hk : ∀ k : Fin 256, blank (UInt8.ofNat k.val) = true → k.val < 128 := by decide +kernel
  have := hk ⟨c.toNat, c.toNat_lt⟩
  simp only [u8_eta] at this
  exact this h
theorem num_low (c : UInt8) (h : numB c = true) : c.toNat < 128 := by
  have hk : ∀ k : Fin 256, numB (UInt8.ofNat k.val) = true → k.val < 128 := by decide +kernel
  have := hk ⟨c.toNat, c.toNat_lt⟩
  simp only [u8_eta] at this
  exact this h
theorem skip_valid {l : List UInt8} (h : validD l = true) : validD (skip l) = true := validD_dropWhile blank_low l h
theorem hexv_low {c : UInt8} {n : Nat} (h : hexv c = some n) : c.toNat < 128 := by
  unfold hexv at h
  split at h
  · omega
  · split at h
    · omega
    · split at h
      · omega
      · cases h
theorem unit_valid {l r : List UInt8} {n : Nat} (h : unit l = some (n, r)) (hv : validD l = true) : validD r = true := by
  match l, h with
  | a :: b :: c :: d :: r', h =>
    simp only [unit, Option.map_eq_some_iff, Prod.mk.injEq] at h
    obtain ⟨m, hm, _, rfl⟩ := h
    unfold hex4 at hm
    split at hm
    · rename_i ha hb hc hd
      rw [validD_cons a _ (hexv_low ha), validD_cons b _ (hexv_low hb), validD_cons c _ (hexv_low hc), validD_cons d _ (hexv_low hd)] at hv
      exact hv
    · cases hm
theorem scalarE_valid {l r : List UInt8} {n : Nat} (h : scalarE l = some (n, r)) (hv : validD l = true) : validD r = true := by
  unfold scalarE at h
  cases h1 : unit l with
  | none => rw [h1] at h; cases h
  | some p =>
    obtain ⟨a, r1⟩ := p
    have hr1 := unit_valid h1 hv
    rw [h1] at h
    simp only at h
    split at h
    · cases h; exact hr1
    · split at h
      · cases h
      · split at h
        · rename_i r' 
          rw [validD_cons 92 _ (by decide), validD_cons 117 _ (by decide)] at hr1
          cases h2 : unit r' with
          | none => rw [h2] at h; cases h
          | some q =>
            obtain ⟨b, r2⟩ := q
            have hr2 := unit_valid h2 hr1
            rw [h2] at h
            simp only at h
            split at h
            · exact absurd h (by simp)
            · have h9 := congrArg (fun o : Option (Nat × List UInt8) => o.map Prod.snd) h
              simp only [Option.map_some, Option.some.injEq] at h9
              rw [← h9]; exact hr2
        · cases h
theorem escLetter_low {c : UInt8} {n : Nat} (h : escLetter c = some n) : c.toNat < 128 := by
  unfold escLetter at h
  by_cases h1 : c = 34
  · rw [h1]; decide
  by_cases h2 : c = 92
  · rw [h2]; decide
  by_cases h3 : c = 47
  · rw [h3]; decide
  by_cases h4 : c = 98
  · rw [h4]; decide
  by_cases h5 : c = 102
  · rw [h5]; decide
  by_cases h6 : c = 110
  · rw [h6]; decide
  by_cases h7 : c = 114
  · rw [h7]; decide
  by_cases h8 : c = 116
  · rw [h8]; decide
  · rw [if_neg h1, if_neg h2, if_neg h3, if_neg h4, if_neg h5, if_neg h6, if_neg h7, if_neg h8] at h; cases h
theorem escape_valid {l r : List UInt8} {n : Nat} (h : escape l = some (n, r)) (hv : validD l = true) : validD r = true := by
  match l, h with
  | c :: t, h =>
    simp only [escape] at h
    split at h
    · rename_i hc
      rw [hc, validD_cons 117 _ (by decide)] at hv
      exact scalarE_valid h hv
    · simp only [Option.map_eq_some_iff, Prod.mk.injEq] at h
      obtain ⟨m, hm, _, rfl⟩ := h
      rw [validD_cons c _ (escLetter_low hm)] at hv
      exact hv
theorem quoted_valid : ∀ (f : Nat) (l acc t r : List UInt8), quoted f l acc = some (t, r) → validD (acc ++ l) = true → validD t = true ∧ validD r = true
  | 0, _, _, _, _, h, _ => by simp [quoted] at h
  | f + 1, [], _, _, _, h, _ => by simp [quoted] at h
  | f + 1, c :: l, acc, t, r, h, hv => by
    by_cases h1 : c = 34
    · subst h1
      simp only [quoted, if_true, Option.some.injEq, Prod.mk.injEq] at h
      obtain ⟨rfl, rfl⟩ := h
      rw [validD_split (by decide)] at hv
      simpa using hv
    · by_cases h2 : c < 32
      · rw [quoted_low h1 h2] at h; cases h
      · by_cases h3 : c = 92
        · cases he : escape l with
          | none => rw [quoted_wrong h1 h2 h3 he] at h; cases h
          | some p =>
            obtain ⟨x, r'⟩ := p
            rw [quoted_esc h1 h2 h3 he] at h
            rw [h3, validD_split (by decide)] at hv
            simp only [Bool.and_eq_true] at hv
            exact quoted_valid f r' _ t r h (validD_app (validD_app hv.1 (valid_rune x)) (escape_valid he hv.2))
        · rw [quoted_byte h1 h2 h3] at h
          exact quoted_valid f l _ t r h (by simpa using hv)
theorem quotedA_valid {l t r : List UInt8} (h : quotedA l = some (t, r)) (hv : validD l = true) : validD t = true ∧ validD r = true := quoted_valid _ l [] t r h hv
theorem key_valid {l k r : List UInt8} (h : key l = some (k, r)) (hv : validD l = true) : okP k = true ∧ validD r = true := by
  have hs := skip_valid hv
  unfold key at h
  split at h
  · rename_i l' heq
    rw [heq, validD_cons 34 _ (by decide)] at hs
    cases hq : quotedA l' with
    | none => rw [hq] at h; cases h
    | some p =>
      obtain ⟨k', r'⟩ := p
      obtain ⟨h1, h2⟩ := quotedA_valid hq hs
      have h3 := skip_valid h2
      rw [hq] at h
      simp only at h
      split at h
      · rename_i heq2
        cases h
        rw [heq2, validD_cons 58 _ (by decide)] at h3
        exact ⟨by rw [okP_valid]; exact h1, h3⟩
      · cases h
  · cases h
theorem number_valid {l r : List UInt8} {n : Int} (h : number l = some (n, r)) (hv : validD l = true) : inP n = true ∧ validD r = true := by
  unfold number at h
  split at h
  · split at h
    · rename_i hc
      cases h
      exact ⟨decide_eq_true hc.1, validD_dropWhile num_low l hv⟩
    · cases h
  · cases h
theorem prefix_valid {a l : List UInt8} (ha : ∀ b ∈ a, b.toNat < 128) (h : a.isPrefixOf l = true) (hv : validD l = true) : validD (l.drop a.length) = true := by
  obtain ⟨t, rfl⟩ := List.isPrefixOf_iff_prefix.1 h
  rw [List.drop_left]
  rw [valid_ascii_app a t ha] at hv
  exact hv
theorem plain_valid {l r : List UInt8} {v : Val} (h : plain l = some (v, r)) (hv : validD l = true) : rightP v = true ∧ (∀ m, nestP v m = true) ∧ validD r = true := by
  unfold plain at h
  split at h
  · rename_i hp
    cases h
    exact ⟨by decide +kernel, fun m => by by_cases hm : m = 0 <;> simp [nestP, Val.null, hm, nestL], prefix_valid (a := [110, 117, 108, 108]) (by decide) hp hv⟩
  · split at h
    · rename_i hp
      cases h
      exact ⟨by decide +kernel, fun m => by by_cases hm : m = 0 <;> simp [nestP, Val.bool, hm, nestL], prefix_valid (a := [102, 97, 108, 115, 101]) (by decide) hp hv⟩
    · split at h
      · rename_i hp
        cases h
        exact ⟨by decide +kernel, fun m => by by_cases hm : m = 0 <;> simp [nestP, Val.bool, hm, nestL], prefix_valid (a := [116, 114, 117, 101]) (by decide) hp hv⟩
      · split at h
        · rename_i l' 
          simp only [Option.map_eq_some_iff] at h
          obtain ⟨⟨t, r'⟩, hq, he⟩ := h
          cases he
          rw [validD_cons 34 _ (by decide)] at hv
          obtain ⟨h1, h2⟩ := quotedA_valid hq hv
          rw [← okP_valid] at h1
          exact ⟨by simp [rightP, Val.str, elseP, h1], fun m => by by_cases hm : m = 0 <;> simp [nestP, Val.str, hm, nestL], h2⟩
        · simp only [Option.map_eq_some_iff] at h
          obtain ⟨⟨n, r'⟩, hq, he⟩ := h
          cases he
          obtain ⟨h1, h2⟩ := number_valid hq hv
          exact ⟨by simp [rightP, Val.num, elseP, h1], fun m => by by_cases hm : m = 0 <;> simp [nestP, Val.num, hm, nestL], h2⟩
end Go.Proofs.YtfjdeacpdcnjpaaGreatDoor.V

namespace Go.Proofs.YtfjdeacpdcnjpaaGreatDoor.V
open Go.RowKit
open Go.Lib

theorem rightPs_snoc : ∀ (l : List Val) (v : Val), rightPs l = true → rightP v = true → rightPs (l ++ [v]) = true
  | [], v, _, h => by simp [rightPs, h]
  | x :: r, v, h, hv => by
    simp only [rightPs, Bool.and_eq_true] at h
    simp only [List.cons_append, rightPs, Bool.and_eq_true]
    exact ⟨h.1, rightPs_snoc r v h.2 hv⟩
theorem nestL_snoc (m : Nat) : ∀ (l : List Val) (v : Val), nestL l m = true → nestP v m = true → nestL (l ++ [v]) m = true
  | [], v, _, h => by simp [nestL, h]
  | x :: r, v, h, hv => by
    simp only [nestL, Bool.and_eq_true] at h
    simp only [List.cons_append, nestL, Bool.and_eq_true]
    exact ⟨h.1, nestL_snoc m r v h.2 hv⟩
theorem keysP_snoc : ∀ (ks seen : List (List UInt8)) (k : List UInt8), keysP ks seen = true → okP k = true → ¬ k ∈ seen ++ ks → keysP (ks ++ [k]) seen = true
  | [], seen, k, _, ho, hk => by
    have : ¬ k ∈ seen := by simpa using hk
    simp [keysP, ho, this]
  | x :: r, seen, k, h, ho, hk => by
    rw [keysP] at h
    simp only [Bool.and_eq_true] at h
    rw [List.cons_append, keysP]
    simp only [Bool.and_eq_true]
    exact ⟨h.1, keysP_snoc r (seen ++ [x]) k h.2 ho (by simpa using hk)⟩

theorem told : ∀ f : Nat,
    (∀ (d : Nat) (l : List UInt8) (v : Val) (r : List UInt8), value f d l = .ok v r → d ≤ 20 → validD l = true → rightP v = true ∧ nestP v (20 - d) = true ∧ validD r = true) ∧
    (∀ (d : Nat) (l : List UInt8) (acc vs : List Val) (r : List UInt8), items f d l acc = .ok vs r → d ≤ 20 → validD l = true → rightPs acc = true → nestL acc (20 - d) = true → rightPs vs = true ∧ nestL vs (20 - d) = true ∧ validD r = true) ∧
    (∀ (d : Nat) (l : List UInt8) (ks : List (List UInt8)) (vs : List Val) (p : List (List UInt8) × List Val) (r : List UInt8), fields f d l ks vs = .ok p r → d ≤ 20 → validD l = true → rightPs vs = true → nestL vs (20 - d) = true → keysP ks [] = true → ks.length = vs.length →
      rightPs p.2 = true ∧ nestL p.2 (20 - d) = true ∧ keysP p.1 [] = true ∧ p.1.length = p.2.length ∧ validD r = true)
  | 0 => ⟨fun d l v r h => by simp [value] at h, fun d l acc vs r h => by simp [items] at h, fun d l ks vs p r h => by simp [fields] at h⟩
  | f + 1 => by
    obtain ⟨IV, II, IF⟩ := told f
    refine ⟨?_, ?_, ?_⟩
    · intro d l0 v r h hd hv
      have hs := skip_valid hv
      rw [value] at h
      split at h
      · rename_i l' heq
        rw [heq, validD_cons 91 _ (by decide)] at hs
        have hs2 := skip_valid hs
        split at h
        · cases h
        · rename_i hd2
          have hm : 20 - d ≠ 0 := by omega
          split at h
          · rename_i r' heq2
            cases h
            rw [heq2, validD_cons 93 _ (by decide)] at hs2
            exact ⟨by decide +kernel, by simp [nestP, Val.arr, hm, nestL], skip_valid hs2⟩
          · cases hi : items f (d + 1) (skip l') [] with
            | bad => rw [hi] at h; cases h
            | deep => rw [hi] at h; cases h
            | ok vs r' =>
              rw [hi] at h
              cases h
              obtain ⟨h1, h2, h3⟩ := II (d + 1) _ [] vs r' hi (by omega) hs2 rfl rfl
              refine ⟨by simp [rightP, Val.arr, elseP, h1], ?_, skip_valid h3⟩
              rw [Val.arr, nestP, if_neg hm, show 20 - d - 1 = 20 - (d + 1) by omega]
              exact h2
      · rename_i l' heq
        rw [heq, validD_cons 123 _ (by decide)] at hs
        have hs2 := skip_valid hs
        split at h
        · cases h
        · rename_i hd2
          have hm : 20 - d ≠ 0 := by omega
          split at h
          · rename_i r' heq2
            cases h
            rw [heq2, validD_cons 125 _ (by decide)] at hs2
            exact ⟨by decide +kernel, by simp [nestP, Val.rcd, hm, nestL], skip_valid hs2⟩
          · cases hi : fields f (d + 1) (skip l') [] [] with
            | bad => rw [hi] at h; cases h
            | deep => rw [hi] at h; cases h
            | ok p r' =>
              rw [hi] at h
              cases h
              obtain ⟨h1, h2, h4, h5, h3⟩ := IF (d + 1) _ [] [] p r' hi (by omega) hs2 rfl rfl rfl rfl
              refine ⟨by simp [rightP, Val.rcd, elseP, h1, h4, h5], ?_, skip_valid h3⟩
              rw [Val.rcd, nestP, if_neg hm, show 20 - d - 1 = 20 - (d + 1) by omega]
              exact h2
      · cases hp : plain (skip l0) with
        | none => rw [hp] at h; cases h
        | some q =>
          obtain ⟨v', r'⟩ := q
          rw [hp] at h
          cases h
          obtain ⟨h1, h2, h3⟩ := plain_valid hp hs
          exact ⟨h1, h2 _, skip_valid h3⟩
    · intro d l acc vs r h hd hv ha hn
      rw [items] at h
      cases hi : value f d l with
      | bad => rw [hi] at h; cases h
      | deep => rw [hi] at h; cases h
      | ok v r1 =>
        obtain ⟨h1, h2, h3⟩ := IV d l v r1 hi hd hv
        rw [hi] at h
        simp only at h
        split at h
        · cases h
          rw [validD_cons 93 _ (by decide)] at h3
          exact ⟨rightPs_snoc _ _ ha h1, nestL_snoc _ _ _ hn h2, h3⟩
        · rw [validD_cons 44 _ (by decide)] at h3
          exact II d _ _ vs r h hd h3 (rightPs_snoc _ _ ha h1) (nestL_snoc _ _ _ hn h2)
        · cases h
    · intro d l ks vs p r h hd hv ha hn hk hl
      rw [fields] at h
      cases hq : key l with
      | none => rw [hq] at h; cases h
      | some q =>
        obtain ⟨k, r0⟩ := q
        obtain ⟨k1, k2⟩ := key_valid hq hv
        rw [hq] at h
        simp only at h
        split at h
        · cases h
        · rename_i hnk
          cases hi : value f d r0 with
          | bad => rw [hi] at h; cases h
          | deep => rw [hi] at h; cases h
          | ok v r1 =>
            obtain ⟨h1, h2, h3⟩ := IV d r0 v r1 hi hd k2
            rw [hi] at h
            simp only at h
            have hkk := keysP_snoc ks [] k hk k1 (by simpa using hnk)
            have hll : (ks ++ [k]).length = (vs ++ [v]).length := by simp [hl]
            split at h
            · cases h
              rw [validD_cons 125 _ (by decide)] at h3
              exact ⟨rightPs_snoc _ _ ha h1, nestL_snoc _ _ _ hn h2, hkk, hll, h3⟩
            · rw [validD_cons 44 _ (by decide)] at h3
              exact IF d _ _ _ p r h hd h3 (rightPs_snoc _ _ ha h1) (nestL_snoc _ _ _ hn h2) hkk hll
            · cases h

/-- What Read answers is right. -/
theorem readB_right {s : ByteArray} {v : Val} (h : readB s = .ok v) : rightTop v = true := by
  unfold readB at h
  split at h
  · rename_i ho
    rw [← U.valid_ok] at ho
    unfold readP at h
    cases hi : value (2 * s.data.toList.length + 1) 0 s.data.toList with
    | bad => rw [hi] at h; cases h
    | deep => rw [hi] at h; cases h
    | ok v' r =>
      obtain ⟨h1, h2, _⟩ := (told _).1 0 _ _ _ hi (by omega) ho
      rw [hi] at h
      cases r with
      | nil => cases h; simp only [rightTop, Bool.and_eq_true]; exact ⟨h2, h1⟩
      | cons c t => cases h
  · cases h
end Go.Proofs.YtfjdeacpdcnjpaaGreatDoor.V

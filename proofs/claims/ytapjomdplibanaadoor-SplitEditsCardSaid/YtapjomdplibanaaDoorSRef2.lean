/- Contracts of the document's own answers for layer 8: name, number, quote, comment. -/
import Derived.Test.YtapjomdplibanaaDoorSRef1
namespace Go.Proofs.YtapjomdplibanaaDoor.S
open Go.RowKit
open Go.Lib
open Go.Proofs.YtapjomdplibanaaDoor.U

theorem tl_len (s : ByteArray) : s.toList.length = s.size := by rw [ByteArray.toList_eq]; rfl
theorem tl_drop (s : ByteArray) {i : Nat} (h : i < s.size) : s.toList.drop i = s[i] :: s.toList.drop (i + 1) := by
  rw [List.drop_eq_getElem_cons (by rw [tl_len]; exact h)]
  congr 1
  simp only [ByteArray.toList_eq]
  rfl
theorem tl_end (s : ByteArray) {i : Nat} (h : s.size ≤ i) : s.toList.drop i = [] := List.drop_of_length_le (by rw [tl_len]; exact h)

/-- What a name has from a place on. -/
def nameAt (s : ByteArray) (i : Nat) : Nat := if i = 0 then nameLen s.toList else i + ((s.toList.drop i).takeWhile nmc).length
theorem nameAt_on (s : ByteArray) {i : Nat} (h : i < s.size) (hc : lett s[i] = true ∨ (figu s[i] = true ∧ i ≠ 0)) : nameAt s (i + 1) = nameAt s i := by
  unfold nameAt
  rw [if_neg (by omega)]
  by_cases h0 : i = 0
  · subst h0
    rw [if_pos rfl]
    have hl : lett s[0] = true := by
      rcases hc with h | ⟨_, h⟩
      · exact h
      · exact absurd rfl h
    have := tl_drop s h
    rw [List.drop_zero] at this
    rw [this]
    simp only [nameLen, hl, if_true, Nat.zero_add, List.drop_succ_cons, List.drop_zero]
  · rw [if_neg h0, tl_drop s h, List.takeWhile_cons]
    have : nmc s[i] = true := by
      unfold nmc
      rcases hc with h | ⟨h, _⟩ <;> simp [h]
    rw [this]
    simp only [if_true, List.length_cons]
    omega
theorem nameAt_off (s : ByteArray) {i : Nat} (h : i < s.size) (h1 : lett s[i] = false) (h2 : figu s[i] = false ∨ i = 0) : nameAt s i = i := by
  unfold nameAt
  by_cases h0 : i = 0
  · subst h0
    rw [if_pos rfl]
    have := tl_drop s h
    rw [List.drop_zero] at this
    rw [this]
    simp [nameLen, h1]
  · rw [if_neg h0, tl_drop s h, List.takeWhile_cons]
    have : nmc s[i] = false := by
      unfold nmc
      rcases h2 with h | h
      · simp [h, h1]
      · exact absurd h h0
    rw [this]
    simp
theorem nameAt_end (s : ByteArray) {i : Nat} (h : s.size ≤ i) : nameAt s i = i := by
  unfold nameAt
  by_cases h0 : i = 0
  · subst h0
    rw [if_pos rfl]
    have := tl_end s h
    rw [List.drop_zero] at this
    rw [this]; rfl
  · rw [if_neg h0, tl_end s h]; rfl
set_option maxHeartbeats 4000000 in
set_option maxRecDepth 20000 in
theorem name_any (s : ByteArray) (w : World) (hs : s.size ≤ 1099511627776) : Calls Tryd.prog 33 #[.string s] w fun e w' => e = .returned (.int .i64 (nameLen s.toList : Nat)) ∧ w = w' := by
  have cL := fun c W => letter_any c W
  have cF := fun c W => figure_any c W
  obtain ⟨R, hR⟩ : ∃ R, nameLen s.toList = R := ⟨_, rfl⟩
  have HR : Hid (nameAt s 0 = R) := Lib.hid hR
  rw [hR]
  clear hR
  go_enter Tryd.func33, Tryd.ntmps33
  go_wp2_with fail
  go_loop [3] (fun iv => ∃ i : Nat, iv = .int .i64 i ∧ i ≤ s.size ∧ Hid (nameAt s i = R)) (fun iv => s.size - (intOf iv).toNat)
  case atStart => exact ⟨0, rfl, Nat.zero_le _, HR⟩
  case round =>
    obtain ⟨i, rfl, hi, HI⟩ := hrel
    clear HR
    by_cases hlt : i < s.size
    · have h1 := nameAt_on s hlt
      have h2 := nameAt_off s hlt
      obtain ⟨x, hx⟩ : ∃ x, s[i] = x := ⟨_, rfl⟩
      rw [hx] at h1 h2
      have H1 := Lib.hid h1
      have H2 := Lib.hid h2
      have c1 := cL x w
      have c2 := cF x w
      clear h1 h2
      go_wp2_with fail
      refine c1.mono ?_
      rintro e w1 ⟨rfl, rfl⟩
      go_wp2_with fail
      refine c2.mono ?_
      rintro e w2 ⟨rfl, rfl⟩
      clear c1 c2
      cases hl : lett x
      · cases hf : figu x
        · have HE := Lib.hid (H2.out hl (.inl hf))
          clear hl hf
          go_wp2_with fail
          go_ret
          exact ⟨by rw [← HI.out, HE.out]; rfl, rfl⟩
        · by_cases h0 : i = 0
          · have HE := Lib.hid (H2.out hl (.inr h0))
            have hz : ((i : Int) == 0) = true := by simp [h0]
            clear hl hf h0
            go_wp2_with fail
            go_ret
            exact ⟨by rw [← HI.out, HE.out]; rfl, rfl⟩
          · have HN : Hid (nameAt s (i + 1) = R) := Lib.hid ((H1.out (.inr ⟨hf, h0⟩)).trans HI.out)
            have hz : ((i : Int) == 0) = false := by simp [h0]
            clear hl hf h0
            go_wp2_with fail
            go_round
            case rel => exact ⟨i + 1, by go_num, by omega, HN⟩
            case measure => simp [intOf]; omega
      · have HN : Hid (nameAt s (i + 1) = R) := Lib.hid ((H1.out (.inl hl)).trans HI.out)
        clear hl
        go_wp2_with fail
        go_round
        case rel => exact ⟨i + 1, by go_num, by omega, HN⟩
        case measure => simp [intOf]; omega
    · have HE := Lib.hid (nameAt_end s (i := i) (by omega))
      go_wp2_with fail
      go_ret
      exact ⟨by rw [← HI.out, HE.out]; rfl, rfl⟩

/-- What follows from a place on, while a test holds. -/
def whileAt (p : UInt8 → Bool) (s : ByteArray) (i : Nat) : Nat := i + ((s.toList.drop i).takeWhile p).length
theorem whileAt_on {p : UInt8 → Bool} {s : ByteArray} {i : Nat} (h : i < s.size) (hp : p s[i] = true) : whileAt p s (i + 1) = whileAt p s i := by
  unfold whileAt
  rw [tl_drop s h, List.takeWhile_cons, hp]
  simp only [if_true, List.length_cons]; omega
theorem whileAt_off {p : UInt8 → Bool} {s : ByteArray} {i : Nat} (h : i < s.size) (hp : p s[i] = false) : whileAt p s i = i := by
  unfold whileAt
  rw [tl_drop s h, List.takeWhile_cons, hp]; simp
theorem whileAt_end (p : UInt8 → Bool) {s : ByteArray} {i : Nat} (h : s.size ≤ i) : whileAt p s i = i := by
  unfold whileAt
  rw [tl_end s h]; rfl
theorem figu_or (c : UInt8) : (figu c = true ∧ decide ((48 : Int) ≤ (c.toNat : Int)) = true ∧ decide ((c.toNat : Int) ≤ 57) = true) ∨ (figu c = false ∧ decide ((48 : Int) ≤ (c.toNat : Int)) = false) ∨ (figu c = false ∧ decide ((48 : Int) ≤ (c.toNat : Int)) = true ∧ decide ((c.toNat : Int) ≤ 57) = false) := by
  have hf : figu c = decide (48 ≤ c.toNat ∧ c.toNat ≤ 57) := by unfold figu; simp [UInt8.le_iff_toNat_le]
  rw [hf]
  generalize c.toNat = n
  by_cases h1 : 48 ≤ n
  · by_cases h2 : n ≤ 57
    · exact .inl ⟨by simp [h1, h2], by simp; omega, by simp; omega⟩
    · exact .inr (.inr ⟨by simp [h2], by simp; omega, by simp; omega⟩)
  · exact .inr (.inl ⟨by simp [h1], by simp; omega⟩)
set_option maxHeartbeats 4000000 in
set_option maxRecDepth 20000 in
theorem number_any (s : ByteArray) (w : World) (hs : s.size ≤ 1099511627776) : Calls Tryd.prog 35 #[.string s] w fun e w' => e = .returned (.int .i64 (numLen s.toList : Nat)) ∧ w = w' := by
  obtain ⟨R, hR⟩ : ∃ R, numLen s.toList = R := ⟨_, rfl⟩
  have HR : Hid (whileAt figu s 0 = R) := Lib.hid (by unfold whileAt; rw [Nat.zero_add, List.drop_zero]; exact hR)
  rw [hR]
  clear hR
  go_enter Tryd.func35, Tryd.ntmps35
  go_wp2_with fail
  go_loop [3] (fun iv => ∃ i : Nat, iv = .int .i64 i ∧ i ≤ s.size ∧ Hid (whileAt figu s i = R)) (fun iv => s.size - (intOf iv).toNat)
  case atStart => exact ⟨0, rfl, Nat.zero_le _, HR⟩
  case round =>
    obtain ⟨i, rfl, hi, HI⟩ := hrel
    clear HR
    by_cases hlt : i < s.size
    · have h1 := whileAt_on (p := figu) hlt
      have h2 := whileAt_off (p := figu) hlt
      obtain ⟨x, hx⟩ : ∃ x, s[i] = x := ⟨_, rfl⟩
      rw [hx] at h1 h2
      have H1 := Lib.hid h1
      have H2 := Lib.hid h2
      have hor := figu_or x
      clear h1 h2
      rcases hor with ⟨hf, d1, d2⟩ | ⟨hf, d1⟩ | ⟨hf, d1, d2⟩
      · have HN := Lib.hid ((H1.out hf).trans HI.out)
        clear hf
        go_wp2_with fail
        go_round
        case rel => exact ⟨i + 1, by go_num, by omega, HN⟩
        case measure => simp [intOf]; omega
      · have HE := Lib.hid (H2.out hf)
        clear hf
        go_wp2_with fail
        go_ret
        exact ⟨by rw [← HI.out, HE.out]; rfl, rfl⟩
      · have HE := Lib.hid (H2.out hf)
        clear hf
        go_wp2_with fail
        go_ret
        exact ⟨by rw [← HI.out, HE.out]; rfl, rfl⟩
    · have HE := Lib.hid (whileAt_end figu (s := s) (i := i) (by omega))
      go_wp2_with fail
      go_ret
      exact ⟨by rw [← HI.out, HE.out]; rfl, rfl⟩

def qAt (s : ByteArray) (i : Nat) : Nat := match quoTail (s.toList.drop i) with | none => 0 | some n => i + n
theorem qAt_10 {s : ByteArray} {i : Nat} (h : i < s.size) (hc : s[i] = 10) : qAt s i = 0 := by
  unfold qAt
  rw [tl_drop s h]
  simp [quoTail, hc]
theorem qAt_34 {s : ByteArray} {i : Nat} (h : i < s.size) (hc : s[i] = 34) : qAt s i = i + 1 := by
  unfold qAt
  rw [tl_drop s h]
  simp [quoTail, hc]
theorem qAt_on {s : ByteArray} {i : Nat} (h : i < s.size) (h1 : s[i] ≠ 10) (h2 : s[i] ≠ 34) : qAt s (i + 1) = qAt s i := by
  unfold qAt
  rw [tl_drop s h]
  simp only [quoTail, if_neg h1, if_neg h2]
  cases quoTail (s.toList.drop (i + 1)) with
  | none => rfl
  | some n => simp only [Option.map_some]; omega
theorem qAt_end {s : ByteArray} {i : Nat} (h : s.size ≤ i) : qAt s i = 0 := by
  unfold qAt
  rw [tl_end s h]; rfl
theorem u8_eq (c d : UInt8) : ((c.toNat : Int) == (d.toNat : Int)) = decide (c = d) := by
  by_cases h : c = d
  · subst h; simp
  · have : ¬ c.toNat = d.toNat := fun e => h (UInt8.toNat_inj.1 e)
    simp [h]; omega
set_option maxHeartbeats 4000000 in
set_option maxRecDepth 20000 in
theorem quote_any (s : ByteArray) (w : World) (hs : s.size ≤ 1099511627776) (h0 : 0 < s.size) : Calls Tryd.prog 36 #[.string s] w fun e w' => e = .returned (.int .i64 (quoLen s.toList : Nat)) ∧ w = w' := by
  have hl := tl_drop s h0
  rw [List.drop_zero] at hl
  obtain ⟨R, hR⟩ : ∃ R, quoLen s.toList = R := ⟨_, rfl⟩
  rw [hR]
  obtain ⟨z, hz⟩ : ∃ z, s[0] = z := ⟨_, rfl⟩
  by_cases h34 : z = 34
  · have HR : Hid (qAt s 1 = R) := Lib.hid (by
      rw [← hR, hl, hz, h34]
      unfold qAt quoLen
      simp only [Nat.zero_add, if_true]
      cases quoTail (s.toList.drop 1) with
      | none => rfl
      | some n => simp only; omega)
    have hb : ((z.toNat : Int) == 34) = true := by rw [h34]; rfl
    clear hR hl h34
    go_enter Tryd.func36, Tryd.ntmps36
    go_wp2_with fail
    go_loop [3] (fun iv => ∃ i : Nat, iv = .int .i64 i ∧ 1 ≤ i ∧ i ≤ s.size ∧ Hid (qAt s i = R)) (fun iv => s.size - (intOf iv).toNat)
    case atStart => exact ⟨1, rfl, Nat.le_refl _, h0, HR⟩
    case round =>
      obtain ⟨i, rfl, hi1, hi, HI⟩ := hrel
      clear HR
      by_cases hlt : i < s.size
      · have h1 := qAt_10 hlt
        have h2 := qAt_34 hlt
        have h3 := qAt_on hlt
        obtain ⟨x, hx⟩ : ∃ x, s[i] = x := ⟨_, rfl⟩
        rw [hx] at h1 h2 h3
        have H1 := Lib.hid h1
        have H2 := Lib.hid h2
        have H3 := Lib.hid h3
        have e1 := u8_eq x 10
        have e2 := u8_eq x 34
        clear h1 h2 h3
        by_cases h10 : x = 10
        · rw [decide_eq_true h10] at e1
          replace e1 : ((x.toNat : Int) == 10) = true := e1
          have HE := Lib.hid (H1.out h10)
          clear e2 h10
          go_wp2_with fail
          go_ret
          exact ⟨by rw [← HI.out, HE.out]; rfl, rfl⟩
        · rw [decide_eq_false h10] at e1
          replace e1 : ((x.toNat : Int) == 10) = false := e1
          by_cases h34 : x = 34
          · rw [decide_eq_true h34] at e2
            replace e2 : ((x.toNat : Int) == 34) = true := e2
            have HE := Lib.hid (H2.out h34)
            clear h10 h34
            go_wp2_with fail
            go_ret
            exact ⟨by rw [← HI.out, HE.out]; rfl, rfl⟩
          · rw [decide_eq_false h34] at e2
            replace e2 : ((x.toNat : Int) == 34) = false := e2
            have HN := Lib.hid ((H3.out h10 h34).trans HI.out)
            clear h10 h34
            go_wp2_with fail
            go_round
            case rel => exact ⟨i + 1, by go_num, by omega, by omega, HN⟩
            case measure => simp [intOf]; omega
      · have HE := Lib.hid (qAt_end (s := s) (i := i) (by omega))
        go_wp2_with fail
        go_ret
        exact ⟨by rw [← HI.out, HE.out]; rfl, rfl⟩
  · have hR0 : R = 0 := by rw [← hR, hl, hz]; simp [quoLen, h34]
    subst hR0
    have hb := u8_eq z 34
    rw [decide_eq_false h34] at hb
    replace hb : ((z.toNat : Int) == 34) = false := hb
    clear hR hl h34
    go_enter Tryd.func36, Tryd.ntmps36
    go_wp2_with fail
    go_ret
    exact ⟨rfl, rfl⟩
theorem ext_list (s : ByteArray) (i j : Nat) : (s.extract i j).toList = (s.toList.drop i).take (j - i) := by
  rw [ByteArray.toList_eq, ByteArray.toList_eq, ByteArray.data_extract, Array.toList_extract]
theorem ext_take (s : ByteArray) (n : Nat) : (s.extract 0 n).toList = s.toList.take n := by rw [ext_list]; rfl
theorem ext_drop (s : ByteArray) (n : Nat) : (s.extract n s.size).toList = s.toList.drop n := by
  rw [ext_list, List.take_of_length_le]
  rw [List.length_drop, tl_len]; exact Nat.le_refl _
def not10 (c : UInt8) : Bool := decide (c ≠ 10)
theorem cmt_or (s : ByteArray) : (2 ≤ s.size ∧ ((s.extract 0 2).toList == [47, 47]) = true ∧ cmtLen s.toList = whileAt not10 s 2) ∨ (2 ≤ s.size ∧ ((s.extract 0 2).toList == [47, 47]) = false ∧ cmtLen s.toList = 0) ∨ (s.size < 2 ∧ cmtLen s.toList = 0) := by
  have hl := tl_len s
  rw [ext_take]
  unfold whileAt
  match h : s.toList with
  | [] => rw [h] at hl; simp at hl; exact .inr (.inr ⟨by omega, rfl⟩)
  | [a] => rw [h] at hl; simp at hl; exact .inr (.inr ⟨by omega, rfl⟩)
  | a :: b :: r =>
    rw [h] at hl
    simp only [List.length_cons] at hl
    by_cases hc : a = 47 ∧ b = 47
    · obtain ⟨rfl, rfl⟩ := hc
      refine .inl ⟨by omega, by simp, ?_⟩
      simp only [cmtLen, and_self, if_true, List.drop_succ_cons, List.drop_zero]
      rfl
    · refine .inr (.inl ⟨by omega, ?_, ?_⟩)
      · simp only [List.take_succ_cons, List.take_zero]
        rw [beq_eq_false_iff_ne]
        intro h
        simp at h
        exact hc h
      · simp only [cmtLen]; rw [if_neg hc]
set_option maxHeartbeats 4000000 in
set_option maxRecDepth 20000 in
theorem comment_any (s : ByteArray) (w : World) (hs : s.size ≤ 1099511627776) : Calls Tryd.prog 23 #[.string s] w fun e w' => e = .returned (.int .i64 (cmtLen s.toList : Nat)) ∧ w = w' := by
  rcases cmt_or s with ⟨h2, hb, hR⟩ | ⟨h2, hb, hR⟩ | ⟨h2, hR⟩
  · rw [hR]
    obtain ⟨R, hR2⟩ : ∃ R, whileAt not10 s 2 = R := ⟨_, rfl⟩
    have HR := Lib.hid hR2
    have hd : decide ((s.size : Int) < 2) = false := by simp; omega
    rw [hR2]
    clear hR hR2
    go_enter Tryd.func23, Tryd.ntmps23
    go_wp2_with fail
    go_loop [3] (fun iv => ∃ i : Nat, iv = .int .i64 i ∧ i ≤ s.size ∧ Hid (whileAt not10 s i = R)) (fun iv => s.size - (intOf iv).toNat)
    case atStart => exact ⟨2, rfl, h2, HR⟩
    case round =>
      obtain ⟨i, rfl, hi, HI⟩ := hrel
      clear HR
      by_cases hlt : i < s.size
      · have h1 := whileAt_on (p := not10) hlt
        have h2 := whileAt_off (p := not10) hlt
        obtain ⟨x, hx⟩ : ∃ x, s[i] = x := ⟨_, rfl⟩
        rw [hx] at h1 h2
        have H1 := Lib.hid h1
        have H2 := Lib.hid h2
        have e1 := u8_eq x 10
        clear h1 h2
        by_cases h10 : x = 10
        · rw [decide_eq_true h10] at e1
          replace e1 : ((x.toNat : Int) == 10) = true := e1
          have HE := Lib.hid (H2.out (by simp [not10, h10]))
          clear h10
          go_wp2_with fail
          go_ret
          exact ⟨by rw [← HI.out, HE.out]; rfl, rfl⟩
        · rw [decide_eq_false h10] at e1
          replace e1 : ((x.toNat : Int) == 10) = false := e1
          have HN := Lib.hid ((H1.out (by simp [not10, h10])).trans HI.out)
          clear h10
          go_wp2_with fail
          go_round
          case rel => exact ⟨i + 1, by go_num, by omega, HN⟩
          case measure => simp [intOf]; omega
      · have HE := Lib.hid (whileAt_end not10 (s := s) (i := i) (by omega))
        go_wp2_with fail
        go_ret
        exact ⟨by rw [← HI.out, HE.out]; rfl, rfl⟩
  · rw [hR]
    have hd : decide ((s.size : Int) < 2) = false := by simp; omega
    clear hR
    go_enter Tryd.func23, Tryd.ntmps23
    go_wp2_with fail
    go_ret
    exact ⟨rfl, rfl⟩
  · rw [hR]
    have hd : decide ((s.size : Int) < 2) = true := by simp; omega
    clear hR
    go_enter Tryd.func23, Tryd.ntmps23
    go_wp2_with fail
    go_ret
    exact ⟨rfl, rfl⟩
end Go.Proofs.YtapjomdplibanaaDoor.S

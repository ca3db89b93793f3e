/- Contracts of the document's own answers for layer 8: other, word. -/
import Derived.Test.YtapjomdplibanaaDoorSRef2
import Derived.Test.YtapjomdplibanaaDoorLBnd
import Derived.Test.YtapjomdplibanaaDoorRefAll
namespace Go.Proofs.YtapjomdplibanaaDoor.S
open Go.RowKit
open Go.Lib hiding intOf
open Go.Proofs.YtapjomdplibanaaDoor.U Go.Proofs.YtapjomdplibanaaDoor.L

/-! ### Where words end in a right text -/
theorem tl_get (s : ByteArray) {i : Nat} (h : i < s.size) : s.toList[i]? = some s[i] := by
  have := tl_drop s h
  rw [← List.head?_drop, this]; rfl
theorem get_tl (s : ByteArray) {i : Nat} {c : UInt8} (h : s.toList[i]? = some c) : i < s.size ∧ s.get! i = c := by
  have hi : i < s.size := by rw [← tl_len]; exact (List.getElem?_eq_some_iff.1 h).1
  refine ⟨hi, ?_⟩
  rw [tl_get s hi] at h
  rw [Utf8W.get!_of_lt s i hi]
  exact Option.some.inj h
theorem bnd_byte {s : ByteArray} {i : Nat} {c : UInt8} (hok : okB s = true) (h : s.toList[i]? = some c) (hc : c.toNat < 128) : Bnd s i ∧ Bnd s (i + 1) := by
  obtain ⟨h1, h2⟩ := get_tl s h
  exact bnd_low hok h1 (by rw [h2]; exact hc)
theorem tl_mk (s : ByteArray) : (⟨s.toList.toArray⟩ : ByteArray) = s := by
  rw [ByteArray.toList_eq]
theorem wid_is (s : ByteArray) : wid s.toList = (Utf8.decode s 0).2 := by unfold wid; rw [tl_mk]
theorem items_first (s : ByteArray) (h : 0 < s.size) : ∃ l, items s = Utf8.decode s 0 :: l := by
  unfold items
  obtain ⟨n, hn⟩ : ∃ n, s.size = n + 1 := ⟨s.size - 1, by omega⟩
  rw [hn, itemsF_step s n 0 h]
  exact ⟨_, rfl⟩
theorem bnd_wid {s : ByteArray} (h : 0 < s.size) : Bnd s (wid s.toList) := by
  obtain ⟨l, hl⟩ := items_first s h
  exact ⟨[Utf8.decode s 0], l, hl, by rw [wid_is]; simp [sumW]⟩
theorem bnd_min {s : ByteArray} (h : 0 < s.size) {a : Nat} (hb : Bnd s a) (ha : 0 < a) : wid s.toList ≤ a := by
  obtain ⟨l, hl⟩ := items_first s h
  obtain ⟨l1, l2, h1, h2⟩ := hb
  rw [hl] at h1
  cases l1 with
  | nil => simp [sumW] at h2; omega
  | cons x y =>
    simp only [List.cons_append, List.cons.injEq] at h1
    rw [← h2, wid_is, h1.1]
    simp [sumW]
theorem nmc_low {c : UInt8} (h : nmc c = true) : c.toNat < 128 := by
  unfold nmc lett figu at h
  simp [UInt8.le_iff_toNat_le] at h
  rcases h with ((h | h) | h) | h
  · omega
  · omega
  · subst h; decide
  · omega
theorem tw_last {p : UInt8 → Bool} {r : By} {i : Nat} (h : i < (r.takeWhile p).length) : ∃ c, r[i]? = some c ∧ p c = true := by
  obtain ⟨c, hc⟩ : ∃ c, (r.takeWhile p)[i]? = some c := ⟨_, List.getElem?_eq_getElem h⟩
  refine ⟨c, ?_, ?_⟩
  · rw [← tw_take p r, List.getElem?_take_of_lt h] at hc
    exact hc
  · have hm : c ∈ r.takeWhile p := List.mem_of_getElem? hc
    have := List.all_takeWhile (p := p) (l := r)
    exact (List.all_eq_true.1 this) c hm
theorem quoTail_last : ∀ (r : By) (n : Nat), quoTail r = some n → r[n - 1]? = some 34
  | [], n, h => by simp [quoTail] at h
  | c :: r, n, h => by
    simp only [quoTail] at h
    split at h
    · cases h
    · split at h
      · rename_i h34
        cases h; simp [h34]
      · cases hq : quoTail r with
        | none => rw [hq] at h; cases h
        | some m =>
          rw [hq] at h
          simp only [Option.map_some, Option.some.injEq] at h
          subst h
          have h1 := quoTail_last r m hq
          have h2 := (quoTail_le r m hq).1
          obtain ⟨k, rfl⟩ : ∃ k, m = k + 1 := ⟨m - 1, by omega⟩
          simpa using h1
/-- A word of a right text ends where a scalar begins. -/
theorem word_bnd {s : ByteArray} (hok : okB s = true) (h : 0 < s.size) : Bnd s (wordL true s.toList).2 := by
  have hl := tl_drop s h
  rw [List.drop_zero] at hl
  have key : ∀ k c, 1 ≤ k → s.toList[k - 1]? = some c → c.toNat < 128 → Bnd s k := fun k c hk h1 h2 => by
    have := (bnd_byte hok h1 h2).2
    rwa [show k - 1 + 1 = k by omega] at this
  unfold wordL
  generalize s.toList.drop (0 + 1) = r at hl
  generalize s[0] = z at hl
  split
  · rename_i h1
    simp only
    rw [hl] at h1 ⊢
    simp only [nameLen] at h1 ⊢
    split at h1
    · rename_i hz
      rw [if_pos hz]
      cases hm : (r.takeWhile nmc).length with
      | zero => exact key 1 z (Nat.le_refl _) (by rw [hl]; rfl) (nmc_low (by unfold nmc; simp [hz]))
      | succ m =>
        obtain ⟨c, h3, h4⟩ := tw_last (p := nmc) (r := r) (i := m) (by omega)
        exact key (1 + (m + 1)) c (by omega) (by rw [hl, show 1 + (m + 1) - 1 = m + 1 by omega]; simpa using h3) (nmc_low h4)
    · omega
  · split
    · rename_i h1
      simp only
      obtain ⟨m, hm⟩ : ∃ m, numLen s.toList = m + 1 := ⟨numLen s.toList - 1, by omega⟩
      obtain ⟨c, h3, h4⟩ := tw_last (p := figu) (r := s.toList) (i := m) (by unfold numLen at hm; omega)
      rw [hm]
      exact key (m + 1) c (by omega) (by rw [show m + 1 - 1 = m by omega]; exact h3) (nmc_low (by unfold nmc; simp [h4]))
    · split
      · rename_i h1
        simp only
        rw [hl] at h1 ⊢
        simp only [quoLen] at h1 ⊢
        split at h1
        · rename_i hz
          rw [if_pos hz]
          cases hq : quoTail r with
          | none => rw [hq] at h1; simp at h1
          | some n =>
            simp only
            have h3 := quoTail_last r n hq
            have h4 := (quoTail_le r n hq).1
            obtain ⟨k, rfl⟩ : ∃ k, n = k + 1 := ⟨n - 1, by omega⟩
            exact key (k + 1 + 1) 34 (by omega) (by rw [hl]; simpa using h3) (by decide)
        · omega
      · split
        · rename_i h1
          simp only
          rw [hl] at h1
          simp at h1
          exact key 1 z (Nat.le_refl _) (by rw [hl]; rfl) (by rw [h1]; decide)
        · simp only
          unfold markLen
          split
          · rename_i h2
            rw [hl] at h2
            match r, h2, hl with
            | b :: u, h2, hl =>
              refine key 2 b (by omega) (by rw [hl]; rfl) ?_
              simp [two] at h2
              rcases h2 with (((((⟨_, h⟩ | ⟨_, h⟩) | ⟨_, h⟩) | ⟨_, h⟩) | ⟨_, h⟩) | ⟨_, h⟩) | ⟨_, h⟩ <;> (rw [h]; decide)
          · rw [if_pos rfl]
            exact bnd_wid h
theorem suf_ok {s : ByteArray} {m : Nat} (hok : okB s = true) (h : Bnd s m) : okB (s.extract m s.size) = true := (cut_ok hok h).2.1

/-! ### other -/
def OtherP (s : ByteArray) (n : Nat) : Prop := (1 ≤ n ∧ n ≤ s.size ∧ okB (s.extract 0 n) = true ∧ ∀ j, 1 ≤ j → j < n → okB (s.extract 0 j) = false) ∨ (n = 1 ∧ ∀ j, 1 ≤ j → j ≤ 4 → j ≤ s.size → okB (s.extract 0 j) = false)
theorem ok_low (c : UInt8) (h : c.toNat < 128) (s : ByteArray) (hs : s.toList = [c]) : okB s = true := by
  have hz : s.size = 1 := by rw [← tl_len, hs]; rfl
  have hd : Utf8.decode s 0 = (c.toNat, 1) := by
    have hg : s.get! 0 = c := (get_tl s (i := 0) (c := c) (by rw [hs]; rfl)).2
    rw [decode_at, hg, decodeN_low _ _ _ _ _ h]
  unfold okB items
  rw [hz, itemsF_step s 0 0 (by omega), hd, itemsF_end s 0 _ (by simp [hz])]
  simp only [okL]
  rw [if_neg (by omega)]
theorem OtherP.low {s : ByteArray} {n : Nat} (h : OtherP s n) (h0 : 0 < s.size) (hc : s[0].toNat < 128) : n = 1 := by
  have h1 : okB (s.extract 0 1) = true := ok_low s[0] hc _ (by
    rw [ext_take]
    have := tl_drop s h0
    rw [List.drop_zero] at this
    rw [this]; rfl)
  rcases h with ⟨h2, _, _, h4⟩ | ⟨h2, _⟩
  · by_cases hn : n = 1
    · exact hn
    · rw [h4 1 (Nat.le_refl _) (by omega)] at h1; cases h1
  · exact h2
theorem OtherP.right {s : ByteArray} {n : Nat} (h : OtherP s n) (h0 : 0 < s.size) (hok : okB s = true) : n = wid s.toList := by
  have hw := bnd_wid h0
  have hwb := wid_bounds (l := s.toList) (by intro e; have := tl_len s; rw [e] at this; simp at this; omega)
  rw [tl_len] at hwb
  have hw4 : wid s.toList ≤ 4 := by rw [wid_is, decode_at]; exact decodeN_wide _ _ _ _ _
  have hwo := (bnd_iff hok hwb.2).1 hw
  rcases h with ⟨h1, h2, h3, h4⟩ | ⟨h1, h2⟩
  · have hb := (bnd_iff hok h2).2 h3
    have hle := bnd_min h0 hb (by omega)
    by_cases e : wid s.toList < n
    · rw [h4 _ hwb.1 e] at hwo; cases hwo
    · omega
  · rw [h2 _ hwb.1 hw4 hwb.2] at hwo; cases hwo
theorem two_or (s : ByteArray) (h : 2 ≤ s.size) : ∃ t : By, (s.extract 0 2).toList = t ∧ (two s.toList = ((t == [58, 61]) || (t == [61, 61]) || (t == [33, 61]) || (t == [60, 61]) || (t == [62, 61]) || (t == [38, 38]) || (t == [124, 124]))) := by
  refine ⟨_, rfl, ?_⟩
  rw [ext_take]
  have hl := tl_len s
  match hh : s.toList with
  | [] => rw [hh] at hl; simp at hl; omega
  | [a] => rw [hh] at hl; simp at hl; omega
  | a :: b :: r =>
    simp only [List.take_succ_cons, List.take_zero, two]
    have e : ∀ x y : UInt8, ([a, b] == [x, y]) = (a == x && b == y) := fun x y => by
      show (a == x && (b == y && true)) = _
      rw [Bool.and_true]
    simp only [e]
theorem two_short (s : ByteArray) (h : s.size < 2) : two s.toList = false := by
  have hl := tl_len s
  match hh : s.toList with
  | [] => rfl
  | [a] => rfl
  | a :: b :: r => rw [hh] at hl; simp at hl; omega
def OtherR (s : ByteArray) (n : Nat) : Prop := (two s.toList = true ∧ n = 2) ∨ (two s.toList = false ∧ OtherP s n)
set_option maxHeartbeats 4000000 in
set_option maxRecDepth 20000 in
theorem other_loop (s : ByteArray) (w : World) (hs : s.size ≤ 1000000) (ht : two s.toList = false) (h0 : 0 < s.size) :
    Calls Tryd.prog 37 #[.string s] w fun e w' => ∃ n : Nat, e = .returned (.int .i64 n) ∧ OtherP s n ∧ Below w.heap.size w w' := by
  have CR := Lib.hid (fun (n : Nat) (hn : n ≤ s.size) W => ref_right (s.extract 0 n) W (by rw [size_extract s 0 n (by omega) hn]; omega))
  have HB0 := Lib.hid (Below.refl w.heap.size w)
  have hor : (∃ _ : 2 ≤ s.size, ((s.extract 0 2).toList == [58, 61]) = false ∧ ((s.extract 0 2).toList == [61, 61]) = false ∧ ((s.extract 0 2).toList == [33, 61]) = false ∧ ((s.extract 0 2).toList == [60, 61]) = false ∧ ((s.extract 0 2).toList == [62, 61]) = false ∧ ((s.extract 0 2).toList == [38, 38]) = false ∧ ((s.extract 0 2).toList == [124, 124]) = false) ∨ s.size < 2 := by
    by_cases h2 : 2 ≤ s.size
    · left
      obtain ⟨t, h1, h3⟩ := two_or s h2
      rw [ht] at h3
      simp only [Bool.false_eq, Bool.or_eq_false_iff] at h3
      obtain ⟨⟨⟨⟨⟨⟨t1, t2⟩, t3⟩, t4⟩, t5⟩, t6⟩, t7⟩ := h3
      rw [h1]
      exact ⟨h2, t1, t2, t3, t4, t5, t6, t7⟩
    · exact .inr (by omega)
  clear ht
  rcases hor with ⟨h2, t1, t2, t3, t4, t5, t6, t7⟩ | h2
  · have hd : decide ((2 : Int) ≤ (s.size : Int)) = true := by simp; omega
    go_enter Tryd.func37, Tryd.ntmps37
    go_wp2_with fail
    clear t1 t2 t3 t4 t5 t6 t7
    go_loopw [3] (fun iv wr => ∃ i : Nat, iv = .int .i64 i ∧ 1 ≤ i ∧ i ≤ 5 ∧ i ≤ s.size + 1 ∧ Hid (∀ j, 1 ≤ j → j < i → okB (s.extract 0 j) = false) ∧ Hid (Below w.heap.size w wr)) (fun iv _ => 5 - (intOf iv).toNat)
    case atStart => exact ⟨1, rfl, Nat.le_refl _, by omega, by omega, Lib.hid (fun j h1 h2 => by omega), HB0⟩
    case round =>
      obtain ⟨i, rfl, h1, h5, hi, HJ, HL⟩ := hrel
      clear HB0
      by_cases h4 : i ≤ 4
      · by_cases hsz : i ≤ s.size
        · have e1 : decide ((i : Int) ≤ 4) = true := by simp; omega
          have e2 : decide ((i : Int) ≤ (s.size : Int)) = true := by simp; omega
          have c1 := CR.out i hsz wr
          obtain ⟨b, hb⟩ : ∃ b, okB (s.extract 0 i) = b := ⟨_, rfl⟩
          rw [hb] at c1
          have HOK := Lib.hid hb
          clear hb
          go_wp2_with fail
          refine c1.mono ?_
          rintro e w2 ⟨rfl, hb2⟩
          have HL2 := Lib.hid (HL.out.trans (hb2.mono HL.out.size))
          clear c1 hb2
          cases b
          · go_wp2_with fail
            go_roundw
            case rel => exact ⟨i + 1, by go_num, by omega, by omega, by omega, Lib.hid (fun j h1 h2 => by
              by_cases e : j < i
              · exact HJ.out j h1 e
              · rw [show j = i by omega]; exact HOK.out), HL2⟩
            case measure => simp [intOf]; omega
          · go_wp2_with fail
            go_ret
            exact ⟨i, rfl, .inl ⟨h1, hsz, HOK.out, HJ.out⟩, HL2.out⟩
        · have e1 : decide ((i : Int) ≤ 4) = true := by simp; omega
          have e2 : decide (i ≤ s.size) = false := by simpa using hsz
          have e3 : decide ((i : Int) ≤ (s.size : Int)) = false := by simp; omega
          go_wp2_with fail
          go_ret
          exact ⟨1, rfl, .inr ⟨rfl, fun j g1 g2 g3 => HJ.out j g1 (by omega)⟩, HL.out⟩
      · have e1 : decide ((i : Int) ≤ 4) = false := by simp; omega
        go_wp2_with fail
        go_ret
        exact ⟨1, rfl, .inr ⟨rfl, fun j g1 g2 g3 => HJ.out j g1 (by omega)⟩, HL.out⟩
  · have hd : decide ((2 : Int) ≤ (s.size : Int)) = false := by simp; omega
    go_enter Tryd.func37, Tryd.ntmps37
    go_wp2_with fail
    go_loopw [3] (fun iv wr => ∃ i : Nat, iv = .int .i64 i ∧ 1 ≤ i ∧ i ≤ 5 ∧ i ≤ s.size + 1 ∧ Hid (∀ j, 1 ≤ j → j < i → okB (s.extract 0 j) = false) ∧ Hid (Below w.heap.size w wr)) (fun iv _ => 5 - (intOf iv).toNat)
    case atStart => exact ⟨1, rfl, Nat.le_refl _, by omega, by omega, Lib.hid (fun j h1 h2 => by omega), HB0⟩
    case round =>
      obtain ⟨i, rfl, h1, h5, hi, HJ, HL⟩ := hrel
      clear HB0
      by_cases h4 : i ≤ 4
      · by_cases hsz : i ≤ s.size
        · have e1 : decide ((i : Int) ≤ 4) = true := by simp; omega
          have e2 : decide ((i : Int) ≤ (s.size : Int)) = true := by simp; omega
          have c1 := CR.out i hsz wr
          obtain ⟨b, hb⟩ : ∃ b, okB (s.extract 0 i) = b := ⟨_, rfl⟩
          rw [hb] at c1
          have HOK := Lib.hid hb
          clear hb
          go_wp2_with fail
          refine c1.mono ?_
          rintro e w2 ⟨rfl, hb2⟩
          have HL2 := Lib.hid (HL.out.trans (hb2.mono HL.out.size))
          clear c1 hb2
          cases b
          · go_wp2_with fail
            go_roundw
            case rel => exact ⟨i + 1, by go_num, by omega, by omega, by omega, Lib.hid (fun j h1 h2 => by
              by_cases e : j < i
              · exact HJ.out j h1 e
              · rw [show j = i by omega]; exact HOK.out), HL2⟩
            case measure => simp [intOf]; omega
          · go_wp2_with fail
            go_ret
            exact ⟨i, rfl, .inl ⟨h1, hsz, HOK.out, HJ.out⟩, HL2.out⟩
        · have e1 : decide ((i : Int) ≤ 4) = true := by simp; omega
          have e2 : decide (i ≤ s.size) = false := by simpa using hsz
          have e3 : decide ((i : Int) ≤ (s.size : Int)) = false := by simp; omega
          go_wp2_with fail
          go_ret
          exact ⟨1, rfl, .inr ⟨rfl, fun j g1 g2 g3 => HJ.out j g1 (by omega)⟩, HL.out⟩
      · have e1 : decide ((i : Int) ≤ 4) = false := by simp; omega
        go_wp2_with fail
        go_ret
        exact ⟨1, rfl, .inr ⟨rfl, fun j g1 g2 g3 => HJ.out j g1 (by omega)⟩, HL.out⟩
set_option maxHeartbeats 4000000 in
set_option maxRecDepth 20000 in
theorem other_two (s : ByteArray) (w : World) (ht : two s.toList = true) :
    Calls Tryd.prog 37 #[.string s] w fun e w' => e = .returned (.int .i64 2) ∧ w = w' := by
  have h2 : 2 ≤ s.size := by have := two_len ht; rwa [tl_len] at this
  obtain ⟨t, h1, h3⟩ := two_or s h2
  rw [ht, ← h1] at h3
  clear h1 ht
  have hd : decide ((2 : Int) ≤ (s.size : Int)) = true := by simp; omega
  cases e0 : ((s.extract 0 2).toList == [58, 61])
  rotate_left
  · clear h3
    go_enter Tryd.func37, Tryd.ntmps37
    go_wp2_with fail
    go_ret
    exact ⟨rfl, rfl⟩
  · rw [e0] at h3
    cases e1 : ((s.extract 0 2).toList == [61, 61])
    rotate_left
    · clear h3
      go_enter Tryd.func37, Tryd.ntmps37
      go_wp2_with fail
      go_ret
      exact ⟨rfl, rfl⟩
    · rw [e1] at h3
      cases e2 : ((s.extract 0 2).toList == [33, 61])
      rotate_left
      · clear h3
        go_enter Tryd.func37, Tryd.ntmps37
        go_wp2_with fail
        go_ret
        exact ⟨rfl, rfl⟩
      · rw [e2] at h3
        cases e3 : ((s.extract 0 2).toList == [60, 61])
        rotate_left
        · clear h3
          go_enter Tryd.func37, Tryd.ntmps37
          go_wp2_with fail
          go_ret
          exact ⟨rfl, rfl⟩
        · rw [e3] at h3
          cases e4 : ((s.extract 0 2).toList == [62, 61])
          rotate_left
          · clear h3
            go_enter Tryd.func37, Tryd.ntmps37
            go_wp2_with fail
            go_ret
            exact ⟨rfl, rfl⟩
          · rw [e4] at h3
            cases e5 : ((s.extract 0 2).toList == [38, 38])
            rotate_left
            · clear h3
              go_enter Tryd.func37, Tryd.ntmps37
              go_wp2_with fail
              go_ret
              exact ⟨rfl, rfl⟩
            · rw [e5] at h3
              cases e6 : ((s.extract 0 2).toList == [124, 124])
              rotate_left
              · clear h3
                go_enter Tryd.func37, Tryd.ntmps37
                go_wp2_with fail
                go_ret
                exact ⟨rfl, rfl⟩
              · rw [e6] at h3
                simp at h3
theorem other_any (s : ByteArray) (w : World) (hs : s.size ≤ 1000000) (h0 : 0 < s.size) :
    Calls Tryd.prog 37 #[.string s] w fun e w' => ∃ n : Nat, e = .returned (.int .i64 n) ∧ OtherR s n ∧ Below w.heap.size w w' := by
  cases ht : two s.toList
  · refine (other_loop s w hs ht h0).mono ?_
    rintro e w' ⟨n, h1, h2, h3⟩
    exact ⟨n, h1, .inr ⟨ht, h2⟩, h3⟩
  · refine (other_two s w ht).mono ?_
    rintro e w' ⟨h1, rfl⟩
    exact ⟨2, h1, .inl ⟨ht, rfl⟩, Below.refl _ _⟩
end Go.Proofs.YtapjomdplibanaaDoor.S

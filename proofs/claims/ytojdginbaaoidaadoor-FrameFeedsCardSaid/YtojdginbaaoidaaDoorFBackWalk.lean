/- The law FrameBack's walk. -/
import Derived.Test.YtojdginbaaoidaaDoorFAlive
namespace Go.Proofs.YtojdginbaaoidaaDoor.F
open Go.RowKit
open Go.Lib

def sumL (l : List (List UInt8)) : Nat := (l.map List.length).sum
def fitsB (l : List (List UInt8)) : Bool := decide (l.length ≤ 60) && decide (sumL (l.take 61) ≤ 2000)
theorem sumL_take_succ {l : List (List UInt8)} {i : Nat} (h : i < l.length) : sumL (l.take (i + 1)) = sumL (l.take i) + l[i].length := by
  have h1 : ∀ a b : List (List UInt8), sumL (a ++ b) = sumL a + sumL b := fun a b => by simp [sumL]
  rw [List.take_succ_eq_append_getElem h, h1]
  show _ + (l[i].length + 0) = _
  omega
theorem sumL_le {l : List (List UInt8)} {M : Nat} (h : ∀ x ∈ l, x.length ≤ M) : sumL l ≤ M * l.length := by
  induction l with
  | nil => simp [sumL]
  | cons x r ih =>
    have h1 := h x List.mem_cons_self
    have h2 := ih (fun y hy => h y (List.mem_cons_of_mem _ hy))
    simp only [sumL, List.map_cons, List.sum_cons, List.length_cons] at h2 ⊢
    rw [Nat.mul_add]; omega
theorem sumL_mem {l : List (List UInt8)} {x : List UInt8} (h : x ∈ l) : x.length ≤ sumL l := by
  induction l with
  | nil => cases h
  | cons y r ih =>
    simp only [sumL, List.map_cons, List.sum_cons] at ih ⊢
    rcases List.mem_cons.1 h with rfl | h
    · omega
    · have := ih h; omega
theorem fits_iff {l : List (List UInt8)} (h : fitsB l = true) : l.length ≤ 60 ∧ sumL l ≤ 2000 := by
  simp only [fitsB, Bool.and_eq_true, decide_eq_true_eq] at h
  rw [List.take_of_length_le (by omega)] at h
  exact h
theorem encL_le : ∀ (l : List (List UInt8)), (∀ x ∈ l, x.length ≤ 65536) → (encL l).length ≤ 25 * l.length + sumL l
  | [], _ => by simp [encL, sumL]
  | x :: r, h => by
    have h1 := encL_le r (fun y hy => h y (List.mem_cons_of_mem _ hy))
    have h2 := dec_long (h x List.mem_cons_self)
    have h3 := headL_length x.length
    simp only [encL, sumL, List.map_cons, List.sum_cons, List.length_append, List.length_cons] at h1 ⊢
    omega

set_option maxHeartbeats 1000000 in
theorem fits_any (a : Option Addr) (cap : Nat) (l : List (List UInt8)) (w : World) (hl : TextsAt w a l) (hn : l.length ≤ 17592186044416) (hs : ∀ x ∈ l, x.length ≤ 1125899906842624) :
    Calls Tryd.prog 8 #[.slice a l.length cap] w fun e w' => e = .returned (.bool (fitsB l)) ∧ w' = w := by
  have HL := Lib.hid hl
  have HSS := Lib.hid hs
  clear hl hs
  go_enter Tryd.func8, Tryd.ntmps8
  go_wp2_with fail
  go_loopw [3, 4] (fun nv iv wr => ∃ i n : Nat, iv = .int .i64 i ∧ nv = .int .i64 n ∧ i ≤ l.length ∧ i ≤ 61 ∧ n ≤ 1125899906842624 * i ∧ Hid (n = sumL (l.take i)) ∧ wr = w) (fun _ iv _ => l.length - (Go.RowKit.intOf iv).toNat)
  case atStart => exact ⟨0, 0, rfl, rfl, by omega, by omega, by omega, Lib.hid (by simp [sumL]), rfl⟩
  case round =>
    obtain ⟨i, n, rfl, rfl, hi, hi2, hn2, HN, rfl⟩ := hrel
    by_cases hlt : i < l.length
    · by_cases h60 : i ≤ 60
      · obtain ⟨g, off, rfl, hc⟩ := HL.out.resolve_left (fun h => by rw [h] at hlt; exact Nat.not_lt_zero _ hlt)
        have hci := hc i hlt
        have hxl := HSS.out l[i] (List.getElem_mem hlt)
        have HN2 := Lib.hid (show n + l[i].length = sumL (l.take (i + 1)) by rw [sumL_take_succ hlt, HN.out])
        have hsz : (⟨(l[i]).toArray⟩ : ByteArray).size = (l[i]).length := rfl
        clear hc
        generalize l[i] = x at hci hxl HN2 hsz
        go_wp2_with fail
        go_roundw
        case rel => exact ⟨i + 1, n + x.length, by go_num, by go_num, by omega, by omega, by omega, HN2, by first | rfl | trivial⟩
        case measure => simp [Go.RowKit.intOf]; omega
      · have hb : fitsB l = false := by
          unfold fitsB
          rw [decide_eq_false (by omega), Bool.false_and]
        have HB := Lib.hid hb
        clear hb
        go_wp2_with fail
        go_ret
        exact ⟨by rw [HB.out]; rfl, rfl⟩
    · have hb : fitsB l = (decide (l.length ≤ 60) && decide (n ≤ 2000)) := by
        unfold fitsB
        rw [List.take_of_length_le (by omega)]
        have h1 := HN.out
        rw [List.take_of_length_le (by omega)] at h1
        rw [h1]
      have HB := Lib.hid hb
      clear hb
      by_cases h60 : l.length ≤ 60
      · go_wp2_with fail
        go_ret
        refine ⟨?_, rfl⟩
        rw [HB.out, decide_eq_true h60, Bool.true_and]
        have hd : decide ((n : Int) ≤ 2000) = decide (n ≤ 2000) := decide_eq_decide.2 (by omega)
        rw [← hd]
        rfl
      · go_wp2_with fail
        go_ret
        refine ⟨?_, rfl⟩
        rw [HB.out, decide_eq_false h60]
        rfl

/-- What of a text is no C. -/
def noC (l : List UInt8) : List UInt8 := l.filter (· != 67)
theorem noC_at {s : ByteArray} {i : Nat} (h : i < s.size) : noC (s.data.toList.take (i + 1)) = noC (s.data.toList.take i) ++ (if s[i] = 67 then [] else [s[i]]) := by
  have h' : i < s.data.toList.length := by simpa using h
  have e : s.data.toList[i] = s[i] := rfl
  unfold noC
  rw [List.take_succ_eq_append_getElem h', List.filter_append, e]
  congr 1
  by_cases hx : s[i] = 67
  · simp [hx]
  · simp [hx]
theorem cut_one {s : ByteArray} {i : Nat} (h : i < s.size) : s.extract i (i + 1) = ⟨#[s[i]]⟩ := by
  apply ByteArray.ext
  rw [ByteArray.data_extract]
  apply Array.ext'
  have h' : i < s.data.toList.length := by simpa using h
  have e : s.data.toList[i] = s[i] := rfl
  simp only [Array.toList_extract]
  rw [List.extract_eq_take_drop, show i + 1 - i = 1 by omega, List.drop_eq_getElem_cons h', e]
  rfl

set_option maxHeartbeats 4000000 in
theorem back_short (a : Option Addr) (cap : Nat) (l : List (List UInt8)) (s : ByteArray) (w : World) (hl : TextsAt w a l) (hn : l.length ≤ 17592186044416) (hs : ∀ x ∈ l, x.length ≤ 1125899906842624) (hE : EnvF w) (hno : ¬ (fitsB l = true ∧ s.size ≤ 2000)) :
    Calls Tryd.prog 6 #[.slice a l.length cap, .string s] w fun e w' => e = .returned (.bool true) ∧ Below w.heap.size w w' := by
  have cF := fits_any a cap l w hl hn hs
  have cA := alive_any w hE
  clear hE hs hl
  by_cases hf : fitsB l = true
  · rw [hf] at cF
    have h2 : 2000 < s.size := by
      apply Nat.lt_of_not_le
      intro h
      exact hno ⟨hf, h⟩
    clear hno hf
    go_enter Tryd.func6, Tryd.ntmps6
    go_wp2_with fail
    refine cF.mono ?_
    rintro e w1 ⟨rfl, rfl⟩
    clear cF
    go_wp2_with fail
    refine cA.mono ?_
    rintro e w1 ⟨rfl, hb1⟩
    clear cA
    go_wp2_with fail
    go_ret
    exact ⟨rfl, hb1⟩
  · have hf : fitsB l = false := by simpa using hf
    rw [hf] at cF
    clear hno hf
    go_enter Tryd.func6, Tryd.ntmps6
    go_wp2_with fail
    refine cF.mono ?_
    rintro e w1 ⟨rfl, rfl⟩
    clear cF
    go_wp2_with fail
    refine cA.mono ?_
    rintro e w1 ⟨rfl, hb1⟩
    clear cA
    go_wp2_with fail
    go_ret
    exact ⟨rfl, hb1⟩
theorem feed_new (d : Nat) (s : ByteArray) (w : World) (hb : Blk d (.slice none 0 0) 0 w) (hE : Env d w) (hs : s.size ≤ 1099511627776) :
    Calls Tryd.prog 13 #[.pointer (some ⟨d, 0, none⟩), .string s] w fun e w' => Below d w w' ∧ ∃ xa xc va vc, e = .returned (.slice xa (goL s.data.toList).out.length xc) ∧ TextsAt w' xa (goL s.data.toList).out ∧ Blk d (.slice va (goL s.data.toList).left.length vc) ((goL s.data.toList).lost : Int) w' := by
  refine (feed_any d d (.slice none 0 0) [] s 0 w hb (World.ownsRow_nil _ _ _ _) hE (Nat.le_refl _) (by simpa using hs) (by decide)).mono ?_
  rintro e w' h
  refine ⟨feeds_below h (Nat.le_of_lt hb.lt) (Nat.le_refl _) (by intro k hk; cases hk), ?_⟩
  obtain ⟨x, v', rfl, hx, hB2, hR2, _⟩ := h
  rw [List.nil_append] at hx hB2 hR2
  obtain ⟨xa, xc, rfl⟩ := owns_len hx
  obtain ⟨va, vc, rfl⟩ := owns_len hR2
  exact ⟨xa, xc, va, vc, rfl, owns_texts hx, by rw [Nat.zero_add] at hB2; exact hB2⟩

set_option maxHeartbeats 8000000 in
theorem back_long (a : Option Addr) (cap : Nat) (l : List (List UInt8)) (s : ByteArray) (w : World) (hl : TextsAt w a l) (hn : l.length ≤ 17592186044416) (hs : ∀ x ∈ l, x.length ≤ 1125899906842624) (hE : EnvF w) (hfit : fitsB l = true) (hsz : s.size ≤ 2000) :
    Calls Tryd.prog 6 #[.slice a l.length cap, .string s] w fun e w' => e = .returned (.bool true) ∧ Below w.heap.size w w' := by
  have cF := fits_any a cap l w hl hn hs
  rw [hfit] at cF
  have hf := fits_iff hfit
  have hx : ∀ x ∈ l, x.length ≤ 65536 := fun x h => by have := sumL_mem h; omega
  have hok : okL l = true := (okL_iff l).2 hx
  have hel := encL_le l hx
  have hgo := goL_enc l hx
  obtain ⟨T, hT⟩ : ∃ T, encL l = T := ⟨_, rfl⟩
  have cE := encode_any a cap l w hl (by omega) (by omega) hE
  unfold Encodes at cE
  rw [hok, hT] at cE
  simp only [if_true] at cE
  rw [hT] at hel hgo
  have hTl : T.length ≤ 3500 := by omega
  obtain ⟨N, hN⟩ : ∃ N, noC s.data.toList = N := ⟨_, rfl⟩
  have hNl : N.length ≤ 2000 := by
    have h1 : (noC s.data.toList).length ≤ s.data.toList.length := List.length_filter_le _ _
    have h2 : s.data.toList.length = s.size := by simp
    rw [hN] at h1; omega
  have hNc : ∀ c ∈ N, c ≠ 67 := by
    rw [← hN]
    intro c hc
    have := (List.mem_filter.1 hc).2
    simpa using this
  have hgo2 : goL (N ++ T) = ⟨l, N.length, []⟩ := by rw [goL_none N T hNc, hgo]; simp
  have hn60 : l.length ≤ 1099511627776 := by omega
  have HN := Lib.hid hN
  have HL := Lib.hid hl
  have HE := Lib.hid hE
  have HG := Lib.hid hgo
  have HG2 := Lib.hid hgo2
  clear hl hE hfit hs hf hx hok hel hgo hgo2 hN hNc hT
  go_enter Tryd.func6, Tryd.ntmps6
  go_wp2_with fail
  refine cF.mono ?_
  rintro e w1 ⟨rfl, rfl⟩
  clear cF
  go_wp2_with fail
  go_loopw [6, 7] (fun nv iv wr => ∃ (i : Nat) (pre : List UInt8), iv = .int .i64 i ∧ nv = .string ⟨pre.toArray⟩ ∧ i ≤ s.size ∧ pre.length ≤ i ∧ Hid (pre = noC (s.data.toList.take i)) ∧ wr = w1) (fun _ iv _ => s.size - (Go.RowKit.intOf iv).toNat)
  case atStart => exact ⟨0, [], rfl, rfl, by omega, by simp, Lib.hid (by simp [noC]), rfl⟩
  case round =>
    obtain ⟨i, pre, rfl, rfl, hi, hpl, HP, rfl⟩ := hrel
    by_cases hlt : i < s.size
    · have hps : (⟨pre.toArray⟩ : ByteArray).size = pre.length := rfl
      have h1 := noC_at hlt
      have hcut := cut_one hlt
      by_cases hc : s[i] = 67
      · rw [if_pos hc, List.append_nil] at h1
        have HP2 := Lib.hid (HP.out.trans h1.symm)
        have t1 : ((s[i].toNat : Int) == 67) = true := by rw [hc]; rfl
        clear h1 hc hcut
        go_wp2_with fail
        go_roundw
        case rel => exact ⟨i + 1, pre, by go_num, rfl, by omega, by omega, HP2, by first | rfl | trivial⟩
        case measure => simp [Go.RowKit.intOf]; omega
      · rw [if_neg hc] at h1
        have HP2 := Lib.hid (show pre ++ [s[i]] = noC (s.data.toList.take (i + 1)) by rw [h1, HP.out])
        have t1 : ((s[i].toNat : Int) == 67) = false := by
          have : s[i].toNat ≠ 67 := fun h => hc (UInt8.toNat_inj.1 h)
          simp; omega
        have hsl : ∀ W, (Instr.slice 9 (.string s) (some (.int .i64 i)) (some (.int .i64 ((i : Int) + 1))) none).run Tryd.prog W = .ok (.string ⟨#[s[i]]⟩) W := fun W => by
          rw [run_slice_string W _ _ _ _ _ _ Tryd.underlying9 (by omega) (by omega) (by omega)]
          have e1 : ((i : Int)).toNat = i := by omega
          have e2 : ((i : Int) + 1).toNat = i + 1 := by omega
          rw [e1, e2, hcut]
        have hc1 : (⟨#[s[i]]⟩ : ByteArray).size = 1 := rfl
        have HAB := Lib.hid (app_bytes pre [s[i]])
        clear h1 hc hcut
        go_wp2_with fail
        go_roundw
        case rel => exact ⟨i + 1, pre ++ [s[i]], by go_num, by rw [← HAB.out], by omega, by rw [List.length_append, List.length_singleton]; omega, HP2, by first | rfl | trivial⟩
        case measure => simp [Go.RowKit.intOf]; omega
    · have hPN : pre = N := by
        rw [HP.out, ← HN.out]
        rw [List.take_of_length_le (by simp; omega)]
      subst hPN
      have hEr := HE.out
      have HABN := Lib.hid (app_bytes pre T)
      go_wp2_with fail
      refine cE.mono ?_
      rintro e w2 ⟨rfl, hb2⟩
      have HB2 := Lib.hid hb2
      clear cE hb2
      go_wp2_with fail
      refine (new_any w2).mono ?_
      rintro e w3 ⟨rfl, hB3, hw3⟩
      have cD := feed_new w2.heap.size ⟨T.toArray⟩ w3 hB3 ((Env.start (HE.out.later HB2.out)).later hw3) (by show T.length ≤ _; omega)
      have hTe : (⟨T.toArray⟩ : ByteArray).data.toList = T := rfl
      rw [hTe, HG.out] at cD
      have HB3 := Lib.hid (HB2.out.trans (hw3.mono HB2.out.size))
      have hz3 := hw3.size
      clear hw3 hB3
      go_wp2_with fail
      refine cD.mono ?_
      rintro e w4 ⟨hb4, xa, xc, va, vc, rfl, hx4, hB4⟩
      have HB4 := Lib.hid (HB3.out.trans (hb4.mono HB2.out.size))
      have HX4 := Lib.hid hx4
      have HBL4 := Lib.hid hB4
      have cL := lost_any _ _ _ w4 hB4
      clear cD hb4 hx4 hB4
      go_wp2_with fail
      refine cL.mono ?_
      rintro e w4 ⟨rfl, rfl⟩
      clear cL
      go_wp2_with fail
      refine (new_any w4).mono ?_
      rintro e w5 ⟨rfl, hB5, hw5⟩
      have cD := feed_new w4.heap.size ⟨(pre ++ T).toArray⟩ w5 hB5 ((Env.start (HE.out.later HB4.out)).later hw5) (by show (pre ++ T).length ≤ _; rw [List.length_append]; omega)
      have hTe2 : (⟨(pre ++ T).toArray⟩ : ByteArray).data.toList = pre ++ T := rfl
      rw [hTe2, HG2.out] at cD
      have HB5 := Lib.hid (HB4.out.trans (hw5.mono HB4.out.size))
      have HW5 := Lib.hid hw5
      have hs1 : (⟨pre.toArray⟩ : ByteArray).size = pre.length := rfl
      have hs2 : (⟨T.toArray⟩ : ByteArray).size = T.length := rfl
      clear hw5 hB5
      go_wp2_with fail
      rw [HABN.out]
      refine cD.mono ?_
      rintro e w6 ⟨hb6, ya, yc, vb, vd, rfl, hy6, hB6⟩
      have hw46 : Below w4.heap.size w4 w6 := HW5.out.trans hb6
      have HB6 := Lib.hid (HB4.out.trans (hw46.mono HB4.out.size))
      have HX6 := Lib.hid (HX4.out.later hw46)
      have HBL6 := Lib.hid (HBL4.out.below hw46)
      have HY6 := Lib.hid hy6
      have HBM6 := Lib.hid hB6
      clear cD hb6 hy6 hB6 hw46
      go_wp2_with fail
      refine (alive_any w6 (HE.out.later HB6.out)).mono ?_
      rintro e w7 ⟨rfl, hb7⟩
      have HB7 := Lib.hid (HB6.out.trans (hb7.mono HB6.out.size))
      have cS1 := strings_any xa a xc cap l l w7 (HX6.out.later hb7) (HL.out.later HB7.out) hn60
      have HY7 := Lib.hid (HY6.out.later hb7)
      have HBL7 := Lib.hid (HBL6.out.below hb7)
      have HBM7 := Lib.hid (HBM6.out.below hb7)
      rw [decide_eq_true rfl] at cS1
      clear hb7
      go_wp2_with fail
      refine cS1.mono ?_
      rintro e w8 ⟨rfl, q, rfl⟩
      have hdr := below_drewN (Below.refl w7.heap.size w7) q
      have cS2 := fun W (h : Below w7.heap.size w7 W) => strings_any ya a yc cap l l W (HY7.out.later h) ((HL.out.later HB7.out).later h) hn60
      simp only [decide_true] at cS2
      have cM := left_any _ _ _ _ _ (w7.drewN q) (HBL7.out.below hdr)
      have HDR := Lib.hid hdr
      clear cS1 hdr
      go_wp2_with fail
      refine cM.mono ?_
      rintro e w9 ⟨rfl, rfl⟩
      clear cM
      go_wp2_with fail
      refine (cS2 _ HDR.out).mono ?_
      rintro e w9 ⟨rfl, q2, rfl⟩
      have hdr2 : Below w7.heap.size w7 (w7.drewN (q + q2)) := below_drewN (Below.refl _ _) _
      have cL2 := lost_any _ _ _ _ (HBM7.out.below hdr2)
      have cM2 := left_any _ _ _ _ _ _ (HBM7.out.below hdr2)
      have HDR2 := Lib.hid hdr2
      clear cS2 hdr2
      go_wp2_with fail
      refine cL2.mono ?_
      rintro e w10 ⟨rfl, rfl⟩
      clear cL2
      go_wp2_with fail
      refine cM2.mono ?_
      rintro e w11 ⟨rfl, rfl⟩
      clear cM2
      go_wp2_with fail
      go_ret
      exact ⟨rfl, HB7.out.trans (HDR2.out.mono HB7.out.size)⟩
theorem back_walk (a : Option Addr) (cap : Nat) (l : List (List UInt8)) (s : ByteArray) (w : World) (hl : TextsAt w a l) (hn : l.length ≤ 17592186044416) (hs : ∀ x ∈ l, x.length ≤ 1125899906842624) (hE : EnvF w) :
    Calls Tryd.prog 6 #[.slice a l.length cap, .string s] w fun e w' => e = .returned (.bool true) ∧ Below w.heap.size w w' := by
  by_cases h : fitsB l = true ∧ s.size ≤ 2000
  · exact back_long a cap l s w hl hn hs hE h.1 h.2
  · exact back_short a cap l s w hl hn hs hE h
end Go.Proofs.YtojdginbaaoidaaDoor.F

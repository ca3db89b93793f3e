/- The contract of the scanner's step. -/
import Derived.Test.YtapjomdplibanaaDoorPMark
import Derived.Test.YtapjomdplibanaaDoorShelf
namespace Go.Proofs.YtapjomdplibanaaDoor.S
open Go.RowKit
open Go.Lib hiding intOf
open Go.Proofs.YtapjomdplibanaaDoor.U Go.Proofs.YtapjomdplibanaaDoor.L

def Stepped (d : Nat) (s : ByteArray) (r : Bool) (i : Nat) (w : World) (e : Ending) (w' : World) : Prop := ∃ (j : Nat) (O : List TokP), i < j ∧ j ≤ s.size ∧ ScSt r s j O ∧ Taken d s r j O w e w'
theorem at_end {d : Nat} {s : ByteArray} {r : Bool} {i j : Int} {v : Value} {O : List TokP} {w W : World} (hB : ScB d s r i v W) (hR : Row d v O W) (hl : Below w.heap.size w W) (hd : d < w.heap.size) :
    Taken d s r j O w (.returned (.tuple #[])) (W.setCell ⟨d, 2, none⟩ (.int .i64 j)) :=
  ⟨rfl, v, hB.set2 j, row_set hR, (Mut.of_below (⟨hl.os, hl.tape, hl.output, hl.size, fun k hk => hl.block k (by omega)⟩ : Below (d + 1) w W)).setCell 2 _⟩
theorem Taken.after {d : Nat} {s : ByteArray} {r : Bool} {j : Int} {O : List TokP} {w W w' : World} {e : Ending} (h : Taken d s r j O W e w') (hl : Below w.heap.size w W) (hd : d < w.heap.size) : Taken d s r j O w e w' := by
  obtain ⟨h1, v, h2, h3, h4⟩ := h
  exact ⟨h1, v, h2, h3, (Mut.of_below (⟨hl.os, hl.tape, hl.output, hl.size, fun k hk => hl.block k (by omega)⟩ : Below (d + 1) w W)).trans h4⟩
theorem tk_plain {x : Int} {s : ByteArray} {i k : Nat} {c : UInt8} (h : i < s.size) (hk : 1 ≤ k) (hc : s[i] = c) (h10 : c ≠ 10) : tkOf x (s.extract i (i + k)) i (i + k) = ⟨x, (s.extract i (i + k)).toList, i, ((i + k : Nat) : Int)⟩ := by
  unfold tkOf
  rw [if_neg]
  rw [ext_list, tl_drop s h, show i + k - i = (k - 1) + 1 by omega, List.take_succ_cons, hc]
  intro e
  exact h10 (List.cons.inj e).1
theorem tk_10 {s : ByteArray} {i : Nat} (h : i < s.size) (hc : s[i] = 10) : tkOf 5 (s.extract i (i + 1)) i (i + 1) = ⟨5, [], i, ((i + 1 : Nat) : Int)⟩ := by
  unfold tkOf
  rw [if_pos]
  rw [ext_list, tl_drop s h, show i + 1 - i = 0 + 1 by omega, List.take_succ_cons, hc]; rfl
theorem rBlank_is (c : UInt8) : rBlank c.toNat = (blank c && decide (c ≠ 10)) := by
  rw [Bool.eq_iff_iff]
  have e : ∀ d : UInt8, c.toNat = d.toNat ↔ c = d := fun d => ⟨fun h => UInt8.toNat_inj.1 h, fun h => by rw [h]⟩
  have e32 := e 32
  have e9 := e 9
  have e13 := e 13
  simp only [show (32 : UInt8).toNat = 32 from rfl, show (9 : UInt8).toNat = 9 from rfl, show (13 : UInt8).toNat = 13 from rfl] at e32 e9 e13
  unfold rBlank blank
  simp only [decide_eq_true_eq, e32, e9, e13, Bool.and_eq_true, Bool.or_eq_true, beq_iff_eq, ne_eq]
  constructor
  · rintro (h | h | h) <;> (subst h; decide)
  · rintro ⟨((h | h) | h) | h, h2⟩
    · exact .inl h
    · exact .inr (.inl h)
    · exact .inr (.inr h)
    · exact absurd h h2
theorem step_word {d : Nat} {s t : ByteArray} {r : Bool} {i k : Nat} {x : Int} {c : UInt8} {O : List TokP} {w W : World} (hS : ScSt r s i O) (hlt : i < s.size) (hc : s[i] = c) (hb : blank c = false) (ht : s.extract i s.size = t) (hk : cmtLen t.toList = 0) (hw : wordL r t.toList = (x, k)) (hl : Below w.heap.size w W) (hd : d < w.heap.size) :
    i + k ≤ s.size ∧ ∀ w', Taken d s r ((i + k : Nat) : Int) (O ++ [tkOf x (s.extract i (i + k)) i (i + k)]) W (.returned (.tuple #[])) w' → Stepped d s r i w (.returned (.tuple #[])) w' := by
  subst ht
  obtain ⟨h1, h2, h3⟩ := scSt_word hS hlt (by rw [hc]; exact hb) hk hw
  refine ⟨h1, fun w' h => ⟨i + k, _, by omega, h1, h3, ?_⟩⟩
  rw [tk_plain hlt h2 hc (fun e => by rw [e] at hb; cases hb)] at h
  exact h.after hl hd
set_option maxHeartbeats 8000000 in
set_option maxRecDepth 20000 in
theorem step_any (d : Nat) (s : ByteArray) (r : Bool) (i : Nat) (v : Value) (O : List TokP) (w : World) (hB : ScB d s r i v w) (hR : Row d v O w) (hS : ScSt r s i O) (hlt : i < s.size) (hs : s.size ≤ 1099511627776) :
    Calls Tryd.prog 28 #[.pointer (some ⟨d, 0, none⟩)] w (Stepped d s r i w) := by
  have h0 := hB.c0
  have h2 := hB.c2
  have hd := hB.lt
  have hf : O.length ≤ 1099511627776 := by have := hS.few; omega
  obtain ⟨t, ht⟩ : ∃ t, s.extract i s.size = t := ⟨_, rfl⟩
  have htz : t.size = s.size - i := by rw [← ht, size_extract s i s.size (by omega) (Nat.le_refl _)]
  have ht0 : 0 < t.size := by omega
  obtain ⟨c, hc⟩ : ∃ c, s[i] = c := ⟨_, rfl⟩
  have htc : t[0] = c := by
    have h1 := first_ext s hlt
    rw [ht, tl_get t ht0, hc] at h1
    exact Option.some.inj h1
  have hc256 : c.toNat < 256 := UInt8.toNat_lt c
  have HB := Lib.hid hB
  have HR := Lib.hid hR
  have HS := Lib.hid hS
  have HC := Lib.hid hc
  have hi0 : (0 : Int) ≤ (i : Int) := by omega
  have hi1 : (i : Int) ≤ (s.size : Int) := by omega
  obtain ⟨Q, hQ⟩ : ∃ Q, Stepped d s r i w = Q := ⟨_, rfl⟩
  rw [hQ]
  have HQ := Lib.hid hQ
  clear hB hR hS hc hQ
  go_enter Tryd.func28, Tryd.ntmps28
  go_upto_region 0 with fail
  go_quiet (fail)
  obtain ⟨W, hW⟩ : ∃ V, w.drewN nq = V := ⟨_, rfl⟩
  have HBl : Hid (Below w.heap.size w W) := Lib.hid (by rw [← hW]; exact drewB (Below.refl _ _) _)
  have HB1 := Lib.hid (HB.out.below HBl.out)
  have HR1 : Hid (Row d v O W) := Lib.hid (owns_later HR.out HBl.out)
  rw [hW]
  clear h0 h2 hW HB HR
  have cBl := blank_any c.toNat W
  rw [rBlank_is] at cBl
  go_wp2_with fail
  refine cBl.mono ?_
  rintro e w2 ⟨rfl, rfl⟩
  clear cBl
  by_cases hbl : blank c = true ∧ c ≠ 10
  · rw [show (blank c && decide (c ≠ 10)) = true by simp [hbl.1, hbl.2]]
    have HE : Hid (Stepped d s r i w (.returned (.tuple #[])) (W.setCell ⟨d, 2, none⟩ (.int .i64 ((i : Int) + 1)))) := Lib.hid ⟨i + 1, O, by omega, by omega, scSt_blank HS.out hlt (fun e => hbl.2 (HC.out.symm.trans e.1)) (by rw [HC.out]; exact hbl.1), at_end (j := (i : Int) + 1) HB1.out HR1.out HBl.out hd⟩
    have h2 := HB1.out.c2
    have f2 := HB1.out.f2
    clear hbl ht htc
    go_wp2_with fail
    refine bodyPost_end (results_none rfl _ _ _) rfl ?_
    rw [← HQ.out]
    exact HE.out
  · rw [show (blank c && decide (c ≠ 10)) = false by
      rw [Bool.and_eq_false_iff]
      by_cases hb : blank c = true
      · exact .inr (by simpa using fun h => hbl ⟨hb, h⟩)
      · exact .inl (by simpa using hb)]
    have HNB := Lib.hid hbl
    have cH : Calls Tryd.prog 40 #[.string t, .string ⟨#[47, 47]⟩] W fun e w' => e = .returned (.bool (Lib.hasPrefix t.toList [47, 47])) ∧ w' = W := by
      rw [ByteArray.toList_eq]
      exact Tryd.strings_HasPrefix t ⟨#[47, 47]⟩ W
    clear hbl
    go_wp2_with fail
    refine cH.mono ?_
    rintro e w2 ⟨rfl, rfl⟩
    clear cH
    rcases cmt_pre t with ⟨hp, hk, hw⟩ | ⟨hp, hk⟩
    · rw [hp]
      obtain ⟨n, hn⟩ : ∃ n, cmtLen t.toList = n := ⟨_, rfl⟩
      rw [hn] at hk hw
      have hle : i + n ≤ s.size := by have h := cmt_le t.toList; rw [hn, tl_len] at h; omega
      have HN2 : Hid (blank c = false → ScSt r s (i + n) O) := Lib.hid (fun hb => by
        have h := scSt_cmt HS.out hlt (by rw [HC.out]; exact hb) (by rw [ht, hn]; exact hk)
        rwa [ht, hn] at h)
      have HBB : Hid (blank c = false) := Lib.hid (by
        cases hb : blank c
        · rfl
        · exfalso
          have h10 : c = 10 := Classical.byContradiction (fun h => HNB.out ⟨hb, h⟩)
          have hl := tl_drop t ht0
          rw [List.drop_zero, htc, h10] at hl
          rw [hl, pre_two] at hp
          match t.toList.drop (0 + 1), hp with
          | [], hp => cases hp
          | x :: u, hp => simp at hp)
      have HST := Lib.hid (HN2.out HBB.out)
      have c1 : ∀ X, Below w2.heap.size w2 X → Calls Tryd.prog 41 #[.string t, .func (.func 42) #[] #[]] X fun e w' => e = .returned (.int .i64 (n : Nat)) ∧ (w'.cell? ⟨d, 2, none⟩ = some (.int .i64 i) ∧ w'.frozen? ⟨d, 2, none⟩ = false) ∧ Hid (Below w2.heap.size w2 w') := fun X hX => by
        have h := spanLine t X (by omega)
        rw [hw] at h
        refine h.mono fun e w' ⟨h1, h2⟩ => ⟨h1, ?_⟩
        have hb := hX.trans (h2.mono hX.size)
        exact ⟨⟨(HB1.out.below hb).c2, (HB1.out.below hb).f2⟩, Lib.hid hb⟩
      have h2 := HB1.out.c2
      have f2 := HB1.out.f2
      have hwr : IntKind.i64.wrap ((i : Int) + (n : Int)) = (i : Int) + (n : Int) := IntWalk.i64_in _ (by omega)
      clear hp hw hn ht htc HN2 HNB
      go_upto_region 10 with fail
      go_region_with (first
        | (go_at_call 41; (with_reducible refine (c1 _ ?_).mono ?_); (exact ⟨rfl, rfl, rfl, Nat.le_refl _, fun _ _ => rfl⟩); rintro e w6 ⟨rfl, ⟨q2, g2⟩, HB6⟩))
      all_goals
        have HE : Hid (Stepped d s r i w (.returned (.tuple #[])) (w6.setCell ⟨d, 2, none⟩ (.int .i64 ((i : Int) + (n : Int))))) := Lib.hid ⟨i + n, O, by omega, hle, HST.out, at_end (j := (i : Int) + (n : Int)) (HB1.out.below HB6.out) (owns_later HR1.out HB6.out) (HBl.out.trans (HB6.out.mono HBl.out.size)) hd⟩
        clear q2 g2 h2 f2 c1
        go_wp2_with fail
        refine bodyPost_end (results_none rfl _ _ _) rfl ?_
        rw [← HQ.out]
        exact HE.out
    · rw [hp]
      have HCM := Lib.hid hk
      clear hp hk
      by_cases h10 : c = 10
      · have e10 : ((c.toNat : Int) == 10) = true := by rw [h10]; rfl
        have cM := mayEnd_any d s r i v O w2 HB1.out HR1.out hf
        have HTEN := Lib.hid h10
        clear h10
        go_wp2_with fail
        refine cM.mono ?_
        rintro e w3 ⟨rfl, hb3⟩
        have HB3 := Lib.hid (HB1.out.below hb3)
        have HR3 : Hid (Row d v O w3) := Lib.hid (owns_later HR1.out hb3)
        have HL3 : Hid (Below w.heap.size w w3) := Lib.hid (HBl.out.trans (hb3.mono HBl.out.size))
        clear cM hb3
        cases hen : endL O
        · have HE : Hid (Stepped d s r i w (.returned (.tuple #[])) (w3.setCell ⟨d, 2, none⟩ (.int .i64 ((i : Int) + 1)))) := Lib.hid ⟨i + 1, O, by omega, by omega, scSt_blank HS.out hlt (fun e => by rw [hen] at e; cases e.2) (by rw [HC.out, HTEN.out]; decide), at_end (j := (i : Int) + 1) HB3.out HR3.out HL3.out hd⟩
          have h2 := HB3.out.c2
          have f2 := HB3.out.f2
          clear hen ht htc
          go_wp2_with fail
          refine bodyPost_end (results_none rfl _ _ _) rfl ?_
          rw [← HQ.out]
          exact HE.out
        · have cT := take_any d s r i 1 5 v O w3 HB3.out HR3.out hf hs (by omega)
          have HF : Hid (∀ w', Taken d s r ((i + 1 : Nat) : Int) (O ++ [tkOf 5 (s.extract i (i + 1)) i (i + 1)]) w3 (.returned (.tuple #[])) w' → Stepped d s r i w (.returned (.tuple #[])) w') := Lib.hid (fun w' h => ⟨i + 1, _, by omega, by omega, scSt_10 HS.out hlt (HC.out.trans HTEN.out) hen, by
            rw [tk_10 hlt (HC.out.trans HTEN.out)] at h
            exact h.after HL3.out hd⟩)
          clear hen ht htc
          go_wp2_with fail
          refine cT.mono ?_
          rintro e w4 ⟨rfl, hT⟩
          have HT := Lib.hid (HF.out w4 ⟨rfl, hT⟩)
          clear cT hT
          go_wp2_with fail
          refine bodyPost_end (results_none rfl _ _ _) rfl ?_
          rw [← HQ.out]
          exact HT.out
      · have e10 : ((c.toNat : Int) == 10) = false := by have h := u8_eq c 10; rw [decide_eq_false h10] at h; exact h
        have HBB : Hid (blank c = false) := Lib.hid (by
          cases hb : blank c
          · rfl
          · exact absurd ⟨hb, h10⟩ HNB.out)
        clear h10 HNB
        by_cases h59 : c = 59
        · have e59 : ((c.toNat : Int) == 59) = true := by rw [h59]; rfl
          obtain ⟨hik, hfin⟩ := step_word HS.out hlt HC.out HBB.out ht HCM.out (word_semi (right := r) ht0 (htc.trans h59)) HBl.out hd
          have HF := Lib.hid hfin
          have cT := take_any d s r i 1 5 v O w2 HB1.out HR1.out hf hs hik
          clear hfin h59 ht htc
          go_wp2_with fail
          refine cT.mono ?_
          rintro e w4 ⟨rfl, hT⟩
          have HT := Lib.hid (HF.out w4 ⟨rfl, hT⟩)
          clear cT hT
          go_wp2_with fail
          refine bodyPost_end (results_none rfl _ _ _) rfl ?_
          rw [← HQ.out]
          exact HT.out
        · have e59 : ((c.toNat : Int) == 59) = false := by have h := u8_eq c 59; rw [decide_eq_false h59] at h; exact h
          have cL := lett_any c.toNat w2
          rw [lett_r] at cL
          go_wp2_with fail
          refine cL.mono ?_
          rintro e w3 ⟨rfl, rfl⟩
          clear cL
          cases hle : lett c
          · have HLE := Lib.hid (htc ▸ hle : lett t[0] = false)
            have cF := fig_any c.toNat w2
            rw [fig_r] at cF
            clear hle
            go_wp2_with fail
            refine cF.mono ?_
            rintro e w4 ⟨rfl, rfl⟩
            clear cF
            cases hfi : figu c
            · have HFI := Lib.hid (htc ▸ hfi : figu t[0] = false)
              clear hfi
              have hmark : quoLen t.toList = 0 → (i + markLen r t.toList ≤ s.size ∧ ∀ W w', Below w.heap.size w W → Taken d s r ((i + markLen r t.toList : Nat) : Int) (O ++ [tkOf 4 (s.extract i (i + markLen r t.toList)) i (i + markLen r t.toList)]) W (.returned (.tuple #[])) w' → Stepped d s r i w (.returned (.tuple #[])) w') := fun hq =>
                ⟨(step_word HS.out hlt HC.out HBB.out ht HCM.out (word_mark ht0 HLE.out HFI.out hq (by rw [htc]; exact h59)) HBl.out hd).1, fun W w' hW h => (step_word HS.out hlt HC.out HBB.out ht HCM.out (word_mark ht0 HLE.out HFI.out hq (by rw [htc]; exact h59)) hW hd).2 w' h⟩
              have HMK := Lib.hid hmark
              clear hmark
              by_cases h34 : c = 34
              · have e34 : ((c.toNat : Int) == 34) = true := by rw [h34]; rfl
                have cQ := pquote_any t w2 (by omega) ht0 (htc.trans h34)
                obtain ⟨n, hn⟩ : ∃ n, quoLen t.toList = n := ⟨_, rfl⟩
                rw [hn] at cQ
                clear h34
                go_wp2_with fail
                refine cQ.mono ?_
                rintro e w5 ⟨rfl, hb5⟩
                have HB5 := Lib.hid (HB1.out.below hb5)
                have HR5 : Hid (Row d v O w5) := Lib.hid (owns_later HR1.out hb5)
                have HL5 : Hid (Below w.heap.size w w5) := Lib.hid (HBl.out.trans (hb5.mono HBl.out.size))
                clear cQ hb5
                by_cases hn0 : 0 < n
                · obtain ⟨hik, hfin⟩ := step_word HS.out hlt HC.out HBB.out ht HCM.out ((word_quo (right := r) ht0 HLE.out HFI.out (by rw [hn]; exact hn0)).trans (by rw [hn])) HL5.out hd
                  have HF := Lib.hid hfin
                  have cT := take_any d s r i n 2 v O w5 HB5.out HR5.out hf hs hik
                  clear hfin ht htc hn
                  go_wp2_with fail
                  refine cT.mono ?_
                  rintro e w8 ⟨rfl, hT⟩
                  have HT := Lib.hid (HF.out w8 ⟨rfl, hT⟩)
                  clear cT hT
                  go_wp2_with fail
                  refine bodyPost_end (results_none rfl _ _ _) rfl ?_
                  rw [← HQ.out]
                  exact HT.out
                · have hq0 : quoLen t.toList = 0 := by omega
                  obtain ⟨hik, hfin⟩ := HMK.out hq0
                  have cM := mark_any d s r i v w5 t HB5.out (by omega) ht0
                  obtain ⟨m, hm⟩ : ∃ m, markLen r t.toList = m := ⟨_, rfl⟩
                  rw [hm] at cM hik
                  simp only [hm] at hfin
                  clear hq0 hn hm HMK
                  go_wp2_with fail
                  refine cM.mono ?_
                  rintro e w6 ⟨rfl, hb6⟩
                  have hB6 := HB5.out.below hb6
                  have hR6 : Row d v O w6 := owns_later HR5.out hb6
                  have hL6 : Below w.heap.size w w6 := HL5.out.trans (hb6.mono HL5.out.size)
                  have HF := Lib.hid (fun w' h => hfin w6 w' hL6 h)
                  have cT := take_any d s r i m 4 v O w6 hB6 hR6 hf hs hik
                  clear hB6 hR6 hL6 cM hb6
                  clear hfin ht htc
                  go_wp2_with fail
                  refine cT.mono ?_
                  rintro e w8 ⟨rfl, hT⟩
                  have HT := Lib.hid (HF.out w8 ⟨rfl, hT⟩)
                  clear cT hT
                  go_wp2_with fail
                  refine bodyPost_end (results_none rfl _ _ _) rfl ?_
                  rw [← HQ.out]
                  exact HT.out
              · have e34 : ((c.toNat : Int) == 34) = false := by have h := u8_eq c 34; rw [decide_eq_false h34] at h; exact h
                obtain ⟨hik, hfin⟩ := HMK.out (quo_no ht0 (by rw [htc]; exact h34))
                have cM := mark_any d s r i v w2 t HB1.out (by omega) ht0
                obtain ⟨m, hm⟩ : ∃ m, markLen r t.toList = m := ⟨_, rfl⟩
                rw [hm] at cM hik
                simp only [hm] at hfin
                clear hm HMK h34
                go_wp2_with fail
                refine cM.mono ?_
                rintro e w6 ⟨rfl, hb6⟩
                have hB6 := HB1.out.below hb6
                have hR6 : Row d v O w6 := owns_later HR1.out hb6
                have hL6 : Below w.heap.size w w6 := HBl.out.trans (hb6.mono HBl.out.size)
                have HF := Lib.hid (fun w' h => hfin w6 w' hL6 h)
                have cT := take_any d s r i m 4 v O w6 hB6 hR6 hf hs hik
                clear hB6 hR6 hL6 cM hb6
                clear hfin ht htc
                go_wp2_with fail
                refine cT.mono ?_
                rintro e w8 ⟨rfl, hT⟩
                have HT := Lib.hid (HF.out w8 ⟨rfl, hT⟩)
                clear cT hT
                go_wp2_with fail
                refine bodyPost_end (results_none rfl _ _ _) rfl ?_
                rw [← HQ.out]
                exact HT.out
            · have hwn := word_num (right := r) ht0 HLE.out (htc ▸ hfi : figu t[0] = true)
              have cS := spanFig t w2 (by omega)
              obtain ⟨n, hn⟩ : ∃ n, whileAt figu t 0 = n := ⟨_, rfl⟩
              rw [hn] at cS hwn
              obtain ⟨hwn, hn1, hn2⟩ := hwn
              have HW := Lib.hid hwn
              clear hfi hn hwn
              go_wp2_with fail
              refine cS.mono ?_
              rintro e w6 ⟨rfl, hb6⟩
              have hB6 := HB1.out.below hb6
              have hR6 : Row d v O w6 := owns_later HR1.out hb6
              have hL6 : Below w.heap.size w w6 := HBl.out.trans (hb6.mono HBl.out.size)
              obtain ⟨hik, hfin⟩ := step_word HS.out hlt HC.out HBB.out ht HCM.out HW.out hL6 hd
              have HF := Lib.hid hfin
              have cT := take_any d s r i n 1 v O w6 hB6 hR6 hf hs hik
              clear hB6 hR6 hL6 cS hb6
              clear hfin ht htc
              go_wp2_with fail
              refine cT.mono ?_
              rintro e w8 ⟨rfl, hT⟩
              have HT := Lib.hid (HF.out w8 ⟨rfl, hT⟩)
              clear cT hT
              go_wp2_with fail
              refine bodyPost_end (results_none rfl _ _ _) rfl ?_
              rw [← HQ.out]
              exact HT.out
          · have hwn := word_name (right := r) ht0 (htc ▸ hle : lett t[0] = true)
            have cS := spanName t w2 (by omega)
            obtain ⟨n, hn⟩ : ∃ n, whileAt nmc t 0 = n := ⟨_, rfl⟩
            rw [hn] at cS hwn
            obtain ⟨hwn, hn1, hn2⟩ := hwn
            obtain ⟨y, hy⟩ : ∃ y, t.extract 0 n = y := ⟨_, rfl⟩
            rw [hy] at hwn
            obtain ⟨x, hx⟩ : ∃ x : Int, (if keyB y.toList then 3 else 0) = x := ⟨_, rfl⟩
            have cO := fun X => sortOf_any y X
            simp only [hx] at cO
            rw [hx] at hwn
            have HW := Lib.hid hwn
            clear hle hn hwn hx
            go_wp2_with fail
            refine cS.mono ?_
            rintro e w6 ⟨rfl, hb6⟩
            have HB6 := Lib.hid (HB1.out.below hb6)
            have HR6 : Hid (Row d v O w6) := Lib.hid (owns_later HR1.out hb6)
            have HL6 : Hid (Below w.heap.size w w6) := Lib.hid (HBl.out.trans (hb6.mono HBl.out.size))
            obtain ⟨hik, hfin⟩ := step_word HS.out hlt HC.out HBB.out ht HCM.out HW.out HL6.out hd
            have HF := Lib.hid hfin
            have cT := take_any d s r i n x v O w6 HB6.out HR6.out hf hs hik
            clear cS hb6 hfin
            go_wp2_with fail
            refine (cO w6).mono ?_
            rintro e w7 ⟨rfl, rfl⟩
            clear cO hy ht htc
            go_wp2_with fail
            refine cT.mono ?_
            rintro e w8 ⟨rfl, hT⟩
            have HT := Lib.hid (HF.out w8 ⟨rfl, hT⟩)
            clear cT hT
            go_wp2_with fail
            refine bodyPost_end (results_none rfl _ _ _) rfl ?_
            rw [← HQ.out]
            exact HT.out
end Go.Proofs.YtapjomdplibanaaDoor.S

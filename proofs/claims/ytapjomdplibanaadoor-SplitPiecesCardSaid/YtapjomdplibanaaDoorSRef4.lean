/- The contract of the document's own word of layer 8. -/
import Derived.Test.YtapjomdplibanaaDoorSRef3
namespace Go.Proofs.YtapjomdplibanaaDoor.S
open Go.RowKit
open Go.Lib hiding intOf
open Go.Proofs.YtapjomdplibanaaDoor.U Go.Proofs.YtapjomdplibanaaDoor.L

theorem two_low {s : ByteArray} (h0 : 0 < s.size) (h : two s.toList = true) : s[0].toNat < 128 := by
  have hl := tl_drop s h0
  rw [List.drop_zero] at hl
  rw [hl] at h
  generalize s[0] = z at h ⊢
  match s.toList.drop (0 + 1), h with
  | b :: u, h =>
    simp [two] at h
    rcases h with (((((⟨h, _⟩ | ⟨h, _⟩) | ⟨h, _⟩) | ⟨h, _⟩) | ⟨h, _⟩) | ⟨h, _⟩) | ⟨h, _⟩ <;> (rw [h]; decide)
set_option maxHeartbeats 8000000 in
set_option maxRecDepth 20000 in
theorem word_any (s : ByteArray) (right : Bool) (w : World) (hs : s.size ≤ 1000000) (h0 : 0 < s.size) (hr : right = true → okB s = true) :
    Calls Tryd.prog 25 #[.string s, .bool right] w fun e w' => e = .returned (.tuple #[.int .i64 (wordL right s.toList).1, .int .i64 ((wordL right s.toList).2 : Nat)]) ∧ Below w.heap.size w w' := by
  have cN := name_any s w (by omega)
  have cM := number_any s w (by omega)
  have cQ := quote_any s w (by omega) h0
  have cO := other_any s w hs h0
  have hnl := name_le s.toList
  rw [tl_len] at hnl
  have hl := tl_drop s h0
  rw [List.drop_zero] at hl
  obtain ⟨R, hR⟩ : ∃ R, wordL right s.toList = R := ⟨_, rfl⟩
  rw [hR]
  unfold wordL at hR
  by_cases h1 : 0 < nameLen s.toList
  · rw [if_pos h1, ← ext_take] at hR
    obtain ⟨n, hn⟩ : ∃ n, nameLen s.toList = n := ⟨_, rfl⟩
    rw [hn] at cN hnl h1 hR
    have cK := key_any (s.extract 0 n) w
    obtain ⟨b, hb⟩ : ∃ b, keyB (s.extract 0 n).toList = b := ⟨_, rfl⟩
    rw [hb] at cK hR
    subst hR
    clear cM cQ cO hl hn hb hr
    go_enter Tryd.func25, Tryd.ntmps25
    go_wp2_with fail
    refine cN.mono ?_
    rintro e w1 ⟨rfl, rfl⟩
    go_wp2_with fail
    refine cK.mono ?_
    rintro e w2 ⟨rfl, rfl⟩
    cases b
    · go_wp2_with fail
      go_ret2
      exact ⟨rfl, Below.refl _ _⟩
    · go_wp2_with fail
      go_ret2
      exact ⟨rfl, Below.refl _ _⟩
  · rw [if_neg h1] at hR
    have hn : nameLen s.toList = 0 := by omega
    rw [hn] at cN
    clear h1 hn hnl
    by_cases h2 : 0 < numLen s.toList
    · rw [if_pos h2] at hR
      obtain ⟨n, hn⟩ : ∃ n, numLen s.toList = n := ⟨_, rfl⟩
      rw [hn] at cM h2 hR
      subst hR
      clear cQ cO hl hn hr
      go_enter Tryd.func25, Tryd.ntmps25
      go_wp2_with fail
      refine cN.mono ?_
      rintro e w1 ⟨rfl, rfl⟩
      go_wp2_with fail
      refine cM.mono ?_
      rintro e w2 ⟨rfl, rfl⟩
      go_wp2_with fail
      go_ret2
      exact ⟨rfl, Below.refl _ _⟩
    · rw [if_neg h2] at hR
      have hn : numLen s.toList = 0 := by omega
      rw [hn] at cM
      clear h2 hn
      by_cases h3 : 0 < quoLen s.toList
      · rw [if_pos h3] at hR
        obtain ⟨n, hn⟩ : ∃ n, quoLen s.toList = n := ⟨_, rfl⟩
        rw [hn] at cQ h3 hR
        subst hR
        clear cO hl hn hr
        go_enter Tryd.func25, Tryd.ntmps25
        go_wp2_with fail
        refine cN.mono ?_
        rintro e w1 ⟨rfl, rfl⟩
        go_wp2_with fail
        refine cM.mono ?_
        rintro e w2 ⟨rfl, rfl⟩
        go_wp2_with fail
        refine cQ.mono ?_
        rintro e w3 ⟨rfl, rfl⟩
        go_wp2_with fail
        go_ret2
        exact ⟨rfl, Below.refl _ _⟩
      · rw [if_neg h3, hl] at hR
        have hn : quoLen s.toList = 0 := by omega
        rw [hn] at cQ
        clear h3 hn
        have htl := @two_low s h0
        have hlow := fun (n : Nat) (h : OtherP s n) => h.low h0
        obtain ⟨z, hz⟩ : ∃ z, s[0] = z := ⟨_, rfl⟩
        have e59 := u8_eq z 59
        rw [hz] at hR htl hlow hl
        simp only [List.head?_cons, Option.some.injEq] at hR
        by_cases h4 : z = 59
        · rw [if_pos h4] at hR
          rw [decide_eq_true h4] at e59
          replace e59 : ((z.toNat : Int) == 59) = true := e59
          subst hR
          clear cO hl hr h4 htl hlow
          go_enter Tryd.func25, Tryd.ntmps25
          go_wp2_with fail
          refine cN.mono ?_
          rintro e w1 ⟨rfl, rfl⟩
          go_wp2_with fail
          refine cM.mono ?_
          rintro e w2 ⟨rfl, rfl⟩
          go_wp2_with fail
          refine cQ.mono ?_
          rintro e w3 ⟨rfl, rfl⟩
          go_wp2_with fail
          go_ret2
          exact ⟨rfl, Below.refl _ _⟩
        · rw [if_neg h4] at hR
          rw [decide_eq_false h4] at e59
          replace e59 : ((z.toNat : Int) == 59) = false := e59
          have hml : ∀ n, OtherR s n → (right = true ∧ markLen right s.toList = n) ∨ (right = false ∧ markLen right s.toList = n ∧ (n = 1 ∨ z.toNat < 128)) ∨ (right = false ∧ markLen right s.toList = 1 ∧ 1 < n ∧ 128 ≤ z.toNat) := by
            intro n hn
            rcases hn with ⟨ht, rfl⟩ | ⟨ht, hp⟩
            · have hm : markLen right s.toList = 2 := by unfold markLen; rw [if_pos ht]
              cases right
              · exact .inr (.inl ⟨rfl, hm, .inr (htl ht)⟩)
              · exact .inl ⟨rfl, hm⟩
            · have hm : markLen right s.toList = if right = true then wid s.toList else 1 := by unfold markLen; rw [if_neg (by rw [ht]; simp)]
              cases right
              · right
                have hm1 : markLen false s.toList = 1 := by rw [hm]; rfl
                have hn1 : 1 ≤ n := by rcases hp with ⟨h, _⟩ | ⟨h, _⟩ <;> omega
                by_cases hz : z.toNat < 128
                · exact .inl ⟨rfl, by rw [hm1, hlow n hp hz], .inr hz⟩
                · by_cases h1 : n = 1
                  · exact .inl ⟨rfl, by rw [hm1, h1], .inl h1⟩
                  · exact .inr ⟨rfl, hm1, by omega, by omega⟩
              · left
                exact ⟨rfl, by rw [hm, hp.right h0 (hr rfl)]; rfl⟩
          have HML := Lib.hid hml
          rw [← hl] at hR
          clear hl hr h4 htl hlow hml
          have HR := Lib.hid hR
          clear hR
          go_enter Tryd.func25, Tryd.ntmps25
          go_wp2_with fail
          refine cN.mono ?_
          rintro e w1 ⟨rfl, rfl⟩
          go_wp2_with fail
          refine cM.mono ?_
          rintro e w2 ⟨rfl, rfl⟩
          go_wp2_with fail
          refine cQ.mono ?_
          rintro e w3 ⟨rfl, rfl⟩
          go_wp2_with fail
          refine cO.mono ?_
          rintro e w4 ⟨n, rfl, hn, hb4⟩
          rcases HML.out n hn with ⟨rfl, hm⟩ | ⟨rfl, hm, hor⟩ | ⟨rfl, hm, h1, h2⟩
          · have HM := Lib.hid hm
            clear hn hm
            go_wp2_with fail
            go_ret2
            exact ⟨by rw [← HR.out, HM.out]; rfl, hb4⟩
          · have HM := Lib.hid hm
            clear hm
            rcases hor with rfl | hz
            · clear hn
              go_wp2_with fail
              go_ret2
              exact ⟨by rw [← HR.out, HM.out]; rfl, hb4⟩
            · by_cases h1 : 1 < n
              · clear hn
                go_wp2_with fail
                go_ret2
                exact ⟨by rw [← HR.out, HM.out]; rfl, hb4⟩
              · clear hn
                go_wp2_with fail
                go_ret2
                exact ⟨by rw [← HR.out, HM.out]; rfl, hb4⟩
          · have HM := Lib.hid hm
            clear hn hm
            go_wp2_with fail
            go_ret2
            exact ⟨by rw [← HR.out, HM.out]; rfl, hb4⟩
end Go.Proofs.YtapjomdplibanaaDoor.S

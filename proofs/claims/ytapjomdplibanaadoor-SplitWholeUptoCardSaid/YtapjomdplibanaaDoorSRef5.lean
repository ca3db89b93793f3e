/- The contract of the document's own Scan of layer 8. -/
import Derived.Test.YtapjomdplibanaaDoorSTok
namespace Go.Proofs.YtapjomdplibanaaDoor.S
open Go.RowKit
open Go.Lib hiding intOf
open Go.Proofs.YtapjomdplibanaaDoor.U Go.Proofs.YtapjomdplibanaaDoor.L

theorem blank_or (z : UInt8) : (blank z = true ∧ (z = 32 ∨ z = 9 ∨ z = 13 ∨ z = 10)) ∨ (blank z = false ∧ z ≠ 32 ∧ z ≠ 9 ∧ z ≠ 13 ∧ z ≠ 10) := by
  unfold blank
  by_cases h1 : z = 32
  · exact .inl ⟨by simp [h1], .inl h1⟩
  · by_cases h2 : z = 9
    · exact .inl ⟨by simp [h2], .inr (.inl h2)⟩
    · by_cases h3 : z = 13
      · exact .inl ⟨by simp [h3], .inr (.inr (.inl h3))⟩
      · by_cases h4 : z = 10
        · exact .inl ⟨by simp [h4], .inr (.inr (.inr h4))⟩
        · exact .inr ⟨by simp [h1, h2, h3, h4], h1, h2, h3, h4⟩
set_option maxHeartbeats 8000000 in
set_option maxRecDepth 20000 in
theorem refScan_any (s : ByteArray) (w : World) (hs : s.size ≤ 1000000) :
    Calls Tryd.prog 16 #[.string s] w fun e w' => ∃ v, e = .returned v ∧ ToksIn w.heap.size w' (scanB (okB s) s.toList) v ∧ Below w.heap.size w w' := by
  obtain ⟨i0, hi0, hz0, hz1, hz2⟩ := info_parts infoTok
  have cR := ref_right s w hs
  obtain ⟨right, hright⟩ : ∃ right, okB s = right := ⟨_, rfl⟩
  have HS0 : Hid (ScSt right s 0 []) := Lib.hid (scSt_start right s (fun h => by rw [hright]; exact h))
  rw [hright] at cR ⊢
  clear hright
  have CC := Lib.hid (fun (i : Nat) (hi : i < s.size) X => comment_any (s.extract i s.size) X (by rw [size_extract s i s.size (by omega) (Nat.le_refl _)]; omega))
  have CW := Lib.hid (fun (i : Nat) (hi : i < s.size) (hr : right = true → okB (s.extract i s.size) = true) X => word_any (s.extract i s.size) right X (by rw [size_extract s i s.size (by omega) (Nat.le_refl _)]; omega) (by rw [size_extract s i s.size (by omega) (Nat.le_refl _)]; omega) hr)
  have CE := Lib.hid (fun k f e' t X => ends_any k f e' t X)
  go_enter Tryd.func16, Tryd.ntmps16
  go_wp2_with fail
  refine cR.mono ?_
  rintro e w1 ⟨rfl, hb1⟩
  obtain ⟨Z, hZ⟩ : ∃ Z, w1.heap.size = Z := ⟨_, rfl⟩
  have hwZ : w.heap.size ≤ Z := by have := hb1.size; omega
  have HB1 := Lib.hid hb1
  have HZ := Lib.hid hZ
  clear hb1 cR hZ
  go_wp2_with fail
  go_loopw [3, 5] (fun ov iv wr => ∃ (i : Nat) (O : List TokP), iv = .int .i64 i ∧ i ≤ s.size ∧ Hid (ScSt right s i O) ∧ Hid (wr.ownsRow Z 55 4 ov O.length (tokCs O)) ∧ Hid (Below Z w1 wr)) (fun _ iv _ => s.size - (intOf iv).toNat)
  case atStart => exact ⟨0, [], rfl, Nat.zero_le _, HS0, Lib.hid (World.ownsRow_nil _ _ _ _), Lib.hid (Below.refl _ _)⟩
  case round =>
    obtain ⟨i, O, rfl, hi, HS, HR, HL⟩ := hrel
    clear HS0
    obtain ⟨oa, oc, rfl⟩ := owns_len HR.out
    have hzr : Z ≤ wr.heap.size := by have := HL.out.size; have := HZ.out; omega
    have hfew : O.length ≤ 1000000 := by have := HS.out.few; omega
    by_cases hlt : i < s.size
    · have cC := CC.out i hlt wr
      obtain ⟨z, hz⟩ : ∃ z, s[i] = z := ⟨_, rfl⟩
      have HZE := Lib.hid hz
      obtain ⟨n, hn⟩ : ∃ n, cmtLen (s.extract i s.size).toList = n := ⟨_, rfl⟩
      rw [hn] at cC
      have HN := Lib.hid hn
      clear hn
      by_cases h0 : O.length = 0
      · have hO0 : O = [] := List.length_eq_zero_iff.1 h0
        have HEB : Hid (endL O = false) := Lib.hid (by rw [hO0]; rfl)
        have HO := Lib.hid h0
        rw [h0] at HR ⊢
        clear h0 hO0 hfew
        go_wp2_with fail
        refine cC.mono ?_
        rintro e w3 ⟨rfl, rfl⟩
        have hzr3 := hzr
        have HL3 := HL
        have HR3 := HR
        clear cC HR HL hzr
        rcases blank_or z with ⟨hbl, z32 | z9 | z13 | z10⟩ | ⟨hbl, n32, n9, n13, n10⟩
        · clear hbl
          have HN2 : Hid (ScSt right s (i + 1) O) := Lib.hid (scSt_blank HS.out hlt (fun e => by have h := HZE.out.symm.trans e.1; rw [z32] at h; cases h) (by rw [HZE.out, z32]; rfl))
          have e32 : ((z.toNat : Int) == 32) = true := by rw [z32]; rfl
          have e9 : ((z.toNat : Int) == 9) = false := by rw [z32]; rfl
          have e13 : ((z.toNat : Int) == 13) = false := by rw [z32]; rfl
          have e10 : ((z.toNat : Int) == 10) = false := by rw [z32]; rfl
          clear z32 HS
          go_wp2_with fail
          go_roundw
          case rel => exact ⟨i + 1, O, by go_num, by omega, HN2, Lib.hid (by have h := HR3.out; rw [HO.out]; exact h), HL3⟩
          case measure => simp [intOf]; omega
        · clear hbl
          have HN2 : Hid (ScSt right s (i + 1) O) := Lib.hid (scSt_blank HS.out hlt (fun e => by have h := HZE.out.symm.trans e.1; rw [z9] at h; cases h) (by rw [HZE.out, z9]; rfl))
          have e32 : ((z.toNat : Int) == 32) = false := by rw [z9]; rfl
          have e9 : ((z.toNat : Int) == 9) = true := by rw [z9]; rfl
          have e13 : ((z.toNat : Int) == 13) = false := by rw [z9]; rfl
          have e10 : ((z.toNat : Int) == 10) = false := by rw [z9]; rfl
          clear z9 HS
          go_wp2_with fail
          go_roundw
          case rel => exact ⟨i + 1, O, by go_num, by omega, HN2, Lib.hid (by have h := HR3.out; rw [HO.out]; exact h), HL3⟩
          case measure => simp [intOf]; omega
        · clear hbl
          have HN2 : Hid (ScSt right s (i + 1) O) := Lib.hid (scSt_blank HS.out hlt (fun e => by have h := HZE.out.symm.trans e.1; rw [z13] at h; cases h) (by rw [HZE.out, z13]; rfl))
          have e32 : ((z.toNat : Int) == 32) = false := by rw [z13]; rfl
          have e9 : ((z.toNat : Int) == 9) = false := by rw [z13]; rfl
          have e13 : ((z.toNat : Int) == 13) = true := by rw [z13]; rfl
          have e10 : ((z.toNat : Int) == 10) = false := by rw [z13]; rfl
          clear z13 HS
          go_wp2_with fail
          go_roundw
          case rel => exact ⟨i + 1, O, by go_num, by omega, HN2, Lib.hid (by have h := HR3.out; rw [HO.out]; exact h), HL3⟩
          case measure => simp [intOf]; omega
        · clear hbl
          have HN2 : Hid (ScSt right s (i + 1) O) := Lib.hid (scSt_blank HS.out hlt (fun e => by have h := e.2; rw [HEB.out] at h; cases h) (by rw [HZE.out, z10]; rfl))
          have e32 : ((z.toNat : Int) == 32) = false := by rw [z10]; rfl
          have e9 : ((z.toNat : Int) == 9) = false := by rw [z10]; rfl
          have e13 : ((z.toNat : Int) == 13) = false := by rw [z10]; rfl
          have e10 : ((z.toNat : Int) == 10) = true := by rw [z10]; rfl
          clear z10 HS
          go_wp2_with fail
          go_roundw
          case rel => exact ⟨i + 1, O, by go_num, by omega, HN2, Lib.hid (by have h := HR3.out; rw [HO.out]; exact h), HL3⟩
          case measure => simp [intOf]; omega
        · have HBF := Lib.hid hbl
          have e32 : ((z.toNat : Int) == 32) = false := by have h := u8_eq z 32; rw [decide_eq_false n32] at h; exact h
          have e9 : ((z.toNat : Int) == 9) = false := by have h := u8_eq z 9; rw [decide_eq_false n9] at h; exact h
          have e13 : ((z.toNat : Int) == 13) = false := by have h := u8_eq z 13; rw [decide_eq_false n13] at h; exact h
          have e10 : ((z.toNat : Int) == 10) = false := by have h := u8_eq z 10; rw [decide_eq_false n10] at h; exact h
          clear hbl n32 n9 n13 n10
          by_cases hn0 : 0 < n
          · have hle : i + n ≤ s.size := by have h := cmt_le (s.extract i s.size).toList; rw [HN.out, ext_drop, List.length_drop, tl_len] at h; omega
            have HN2 : Hid (ScSt right s (i + n) O) := Lib.hid (by have h := scSt_cmt HS.out hlt (by rw [HZE.out]; exact HBF.out) (by rw [HN.out]; exact hn0); rwa [HN.out] at h)
            clear HS
            go_wp2_with fail
            go_roundw
            case rel => exact ⟨i + n, O, by go_num, by omega, HN2, Lib.hid (by have h := HR3.out; rw [HO.out]; exact h), HL3⟩
            case measure => simp [intOf]; omega
          · have cW := CW.out i hlt HS.out.ok wr
            obtain ⟨⟨x, j⟩, hw⟩ : ∃ p, wordL right (s.extract i s.size).toList = p := ⟨_, rfl⟩
            rw [hw] at cW
            obtain ⟨hij, hj1, hN2⟩ := scSt_word HS.out hlt (by rw [HZE.out]; exact HBF.out) (by rw [HN.out]; omega) hw
            have HN2 := Lib.hid hN2
            simp only at cW
            clear HS hN2 hw
            go_wp2_with fail
            refine cW.mono ?_
            rintro e w4 ⟨rfl, hb4⟩
            have hzr4 : Z ≤ w4.heap.size := by have := hb4.size; omega
            have HL4 : Hid (Below Z w1 w4) := Lib.hid (HL3.out.trans (hb4.mono hzr3))
            have HR4 := Lib.hid (owns_later HR3.out hb4)
            clear hb4 cW HR3 HL3
            go_wp2_with fail
            rw [run_slice_string _ _ _ _ _ _ _ Tryd.underlying9 (by omega) (by omega) (by omega), show ((i : Int)).toNat = i by omega, show ((i : Int) + (j : Int)).toNat = i + j by omega]
            go_wp2_with (at_builtin; refine wpList_append_own _ rfl _ _ 37 rfl Z 55 i0 (.agg #[.int .i64 0, .string ⟨#[]⟩, .int .i64 0, .int .i64 0]) 4 40 Tryd.underlying37 hi0 hz0 hz1 hz2 rfl (by decide) _ _ _ rfl (HR4.out.alloc _) ⟨w4.heap.size, 0, none⟩ 1 1 (tokCs [⟨x, (s.extract i (i + j)).toList, i, ((i + j : Nat) : Int)⟩]) rfl rfl ?c1 (plain_toks _) ?c3 ?c4 ?c5 ?_)
            case c1 => exact new_tokS _ _ _ _ _
            case c3 => unfold maxLen; omega
            case c4 => omega
            case c5 => rw [World.size_alloc]; omega
            intro v5 w5 hv5 hg5 _
            have HV5 := Lib.hid hv5
            have HB5 := Lib.hid (below_grown HL4.out HR4.out hg5 hzr4)
            clear hv5 hg5
            go_wp2_with fail
            go_roundw
            case rel => exact ⟨i + j, _, by go_num, by omega, HN2, Lib.hid (by have := HV5.out; rw [← tokCs_app] at this; simpa [List.length_append, HO.out] using this), HB5⟩
            case measure => simp [intOf]; omega
      · obtain ⟨k, hk⟩ : ∃ k, O.length = k + 1 := ⟨O.length - 1, by omega⟩
        obtain ⟨g, c, hv, hkc, hgZ, hgw⟩ := row_some HR.out (by omega)
        cases hv
        have hta := toks_at HR.out rfl
        have hkO : k < O.length := by omega
        have hcl := tok_at k hta hkO
        obtain ⟨t, ht⟩ : ∃ t, O[k] = t := ⟨_, rfl⟩
        rw [ht] at hcl
        have hend : endL O = endsP t.w t.t := by
          unfold endL
          rw [List.getLast?_eq_getElem?, hk, Nat.add_sub_cancel, List.getElem?_eq_getElem hkO, ht]
        simp only [Nat.zero_add] at hcl
        obtain ⟨c0, c1, c2, c3⟩ := hcl
        have HEND := Lib.hid hend
        have hk6 : k ≤ 1000000 := by omega
        clear hend hta ht h0 hfew
        have cE := CE.out t.w t.f t.e ⟨t.t.toArray⟩ wr
        have HO := Lib.hid hk
        rw [hk] at HR hkO ⊢
        clear hk
        go_wp2_with fail
        refine cC.mono ?_
        rintro e w2 ⟨rfl, rfl⟩
        go_wp2_with fail
        refine cE.mono ?_
        rintro e w3 ⟨rfl, hb3⟩
        have hzr3 : Z ≤ w3.heap.size := by have := hb3.size; omega
        have HL3 : Hid (Below Z w1 w3) := Lib.hid (HL.out.trans (hb3.mono hzr))
        have HR3 : Hid (w3.ownsRow Z 55 4 (.slice (some ⟨g, 0, none⟩) (k + 1) oc) (k + 1) (tokCs O)) := Lib.hid (owns_later HR.out hb3)
        obtain ⟨b, hb⟩ : ∃ b, endsP t.w (⟨t.t.toArray⟩ : ByteArray).toList = b := ⟨_, rfl⟩
        rw [hb]
        have HEB : Hid (endL O = b) := Lib.hid (by rw [HEND.out, ← hb, ByteArray.toList_eq])
        clear cE hb c0 c1 c2 c3 hb3 HR HL HEND
        clear cC
        rcases blank_or z with ⟨hbl, z32 | z9 | z13 | z10⟩ | ⟨hbl, n32, n9, n13, n10⟩
        · clear hbl
          have HN2 : Hid (ScSt right s (i + 1) O) := Lib.hid (scSt_blank HS.out hlt (fun e => by have h := HZE.out.symm.trans e.1; rw [z32] at h; cases h) (by rw [HZE.out, z32]; rfl))
          have e32 : ((z.toNat : Int) == 32) = true := by rw [z32]; rfl
          have e9 : ((z.toNat : Int) == 9) = false := by rw [z32]; rfl
          have e13 : ((z.toNat : Int) == 13) = false := by rw [z32]; rfl
          have e10 : ((z.toNat : Int) == 10) = false := by rw [z32]; rfl
          clear z32 HS
          go_wp2_with fail
          go_roundw
          case rel => exact ⟨i + 1, O, by go_num, by omega, HN2, Lib.hid (by have h := HR3.out; rw [HO.out]; exact h), HL3⟩
          case measure => simp [intOf]; omega
        · clear hbl
          have HN2 : Hid (ScSt right s (i + 1) O) := Lib.hid (scSt_blank HS.out hlt (fun e => by have h := HZE.out.symm.trans e.1; rw [z9] at h; cases h) (by rw [HZE.out, z9]; rfl))
          have e32 : ((z.toNat : Int) == 32) = false := by rw [z9]; rfl
          have e9 : ((z.toNat : Int) == 9) = true := by rw [z9]; rfl
          have e13 : ((z.toNat : Int) == 13) = false := by rw [z9]; rfl
          have e10 : ((z.toNat : Int) == 10) = false := by rw [z9]; rfl
          clear z9 HS
          go_wp2_with fail
          go_roundw
          case rel => exact ⟨i + 1, O, by go_num, by omega, HN2, Lib.hid (by have h := HR3.out; rw [HO.out]; exact h), HL3⟩
          case measure => simp [intOf]; omega
        · clear hbl
          have HN2 : Hid (ScSt right s (i + 1) O) := Lib.hid (scSt_blank HS.out hlt (fun e => by have h := HZE.out.symm.trans e.1; rw [z13] at h; cases h) (by rw [HZE.out, z13]; rfl))
          have e32 : ((z.toNat : Int) == 32) = false := by rw [z13]; rfl
          have e9 : ((z.toNat : Int) == 9) = false := by rw [z13]; rfl
          have e13 : ((z.toNat : Int) == 13) = true := by rw [z13]; rfl
          have e10 : ((z.toNat : Int) == 10) = false := by rw [z13]; rfl
          clear z13 HS
          go_wp2_with fail
          go_roundw
          case rel => exact ⟨i + 1, O, by go_num, by omega, HN2, Lib.hid (by have h := HR3.out; rw [HO.out]; exact h), HL3⟩
          case measure => simp [intOf]; omega
        · clear hbl
          cases b
          · have HN2 : Hid (ScSt right s (i + 1) O) := Lib.hid (scSt_blank HS.out hlt (fun e => by have h := e.2; rw [HEB.out] at h; cases h) (by rw [HZE.out, z10]; rfl))
            have e32 : ((z.toNat : Int) == 32) = false := by rw [z10]; rfl
            have e9 : ((z.toNat : Int) == 9) = false := by rw [z10]; rfl
            have e13 : ((z.toNat : Int) == 13) = false := by rw [z10]; rfl
            have e10 : ((z.toNat : Int) == 10) = true := by rw [z10]; rfl
            clear z10 HS
            go_wp2_with fail
            go_roundw
            case rel => exact ⟨i + 1, O, by go_num, by omega, HN2, Lib.hid (by have h := HR3.out; rw [HO.out]; exact h), HL3⟩
            case measure => simp [intOf]; omega
          · have HN2 : Hid (ScSt right s (i + 1) (O ++ [⟨5, [], i, ((i + 1 : Nat) : Int)⟩])) := Lib.hid (scSt_10 HS.out hlt (HZE.out.trans z10) HEB.out)
            have e32 : ((z.toNat : Int) == 32) = false := by rw [z10]; rfl
            have e9 : ((z.toNat : Int) == 9) = false := by rw [z10]; rfl
            have e13 : ((z.toNat : Int) == 13) = false := by rw [z10]; rfl
            have e10 : ((z.toNat : Int) == 10) = true := by rw [z10]; rfl
            clear z10 HS
            go_wp2_with (at_builtin; refine wpList_append_own _ rfl _ _ 37 rfl Z 55 i0 (.agg #[.int .i64 0, .string ⟨#[]⟩, .int .i64 0, .int .i64 0]) 4 40 Tryd.underlying37 hi0 hz0 hz1 hz2 rfl (by decide) _ _ _ rfl (HR3.out.alloc _) ⟨w3.heap.size, 0, none⟩ 1 1 (tokCs [⟨5, [], i, ((i + 1 : Nat) : Int)⟩]) rfl rfl ?c1 (plain_toks _) ?c3 ?c4 ?c5 ?_)
            case c1 => exact new_tok _ _
            case c3 => unfold maxLen; omega
            case c4 => omega
            case c5 => rw [World.size_alloc]; omega
            intro v5 w5 hv5 hg5 _
            have HV5 := Lib.hid hv5
            have HB5 := Lib.hid (below_grown HL3.out HR3.out hg5 hzr3)
            clear hv5 hg5
            go_wp2_with fail
            go_roundw
            case rel => exact ⟨i + 1, _, by go_num, by omega, HN2, Lib.hid (by have := HV5.out; rw [← tokCs_app] at this; simpa [List.length_append, HO.out] using this), HB5⟩
            case measure => simp [intOf]; omega
        · have HBF := Lib.hid hbl
          have e32 : ((z.toNat : Int) == 32) = false := by have h := u8_eq z 32; rw [decide_eq_false n32] at h; exact h
          have e9 : ((z.toNat : Int) == 9) = false := by have h := u8_eq z 9; rw [decide_eq_false n9] at h; exact h
          have e13 : ((z.toNat : Int) == 13) = false := by have h := u8_eq z 13; rw [decide_eq_false n13] at h; exact h
          have e10 : ((z.toNat : Int) == 10) = false := by have h := u8_eq z 10; rw [decide_eq_false n10] at h; exact h
          clear hbl n32 n9 n13 n10
          by_cases hn0 : 0 < n
          · have hle : i + n ≤ s.size := by have h := cmt_le (s.extract i s.size).toList; rw [HN.out, ext_drop, List.length_drop, tl_len] at h; omega
            have HN2 : Hid (ScSt right s (i + n) O) := Lib.hid (by have h := scSt_cmt HS.out hlt (by rw [HZE.out]; exact HBF.out) (by rw [HN.out]; exact hn0); rwa [HN.out] at h)
            clear HS
            go_wp2_with fail
            go_roundw
            case rel => exact ⟨i + n, O, by go_num, by omega, HN2, Lib.hid (by have h := HR3.out; rw [HO.out]; exact h), HL3⟩
            case measure => simp [intOf]; omega
          · have cW := CW.out i hlt HS.out.ok w3
            obtain ⟨⟨x, j⟩, hw⟩ : ∃ p, wordL right (s.extract i s.size).toList = p := ⟨_, rfl⟩
            rw [hw] at cW
            obtain ⟨hij, hj1, hN2⟩ := scSt_word HS.out hlt (by rw [HZE.out]; exact HBF.out) (by rw [HN.out]; omega) hw
            have HN2 := Lib.hid hN2
            simp only at cW
            clear HS hN2 hw
            go_wp2_with fail
            refine cW.mono ?_
            rintro e w4 ⟨rfl, hb4⟩
            have hzr4 : Z ≤ w4.heap.size := by have := hb4.size; omega
            have HL4 : Hid (Below Z w1 w4) := Lib.hid (HL3.out.trans (hb4.mono hzr3))
            have HR4 := Lib.hid (owns_later HR3.out hb4)
            clear hb4 cW HR3 HL3
            go_wp2_with fail
            rw [run_slice_string _ _ _ _ _ _ _ Tryd.underlying9 (by omega) (by omega) (by omega), show ((i : Int)).toNat = i by omega, show ((i : Int) + (j : Int)).toNat = i + j by omega]
            go_wp2_with (at_builtin; refine wpList_append_own _ rfl _ _ 37 rfl Z 55 i0 (.agg #[.int .i64 0, .string ⟨#[]⟩, .int .i64 0, .int .i64 0]) 4 40 Tryd.underlying37 hi0 hz0 hz1 hz2 rfl (by decide) _ _ _ rfl (HR4.out.alloc _) ⟨w4.heap.size, 0, none⟩ 1 1 (tokCs [⟨x, (s.extract i (i + j)).toList, i, ((i + j : Nat) : Int)⟩]) rfl rfl ?c1 (plain_toks _) ?c3 ?c4 ?c5 ?_)
            case c1 => exact new_tokS _ _ _ _ _
            case c3 => unfold maxLen; omega
            case c4 => omega
            case c5 => rw [World.size_alloc]; omega
            intro v5 w5 hv5 hg5 _
            have HV5 := Lib.hid hv5
            have HB5 := Lib.hid (below_grown HL4.out HR4.out hg5 hzr4)
            clear hv5 hg5
            go_wp2_with fail
            go_roundw
            case rel => exact ⟨i + j, _, by go_num, by omega, HN2, Lib.hid (by have := HV5.out; rw [← tokCs_app] at this; simpa [List.length_append, HO.out] using this), HB5⟩
            case measure => simp [intOf]; omega
    · obtain rfl : i = s.size := by omega
      by_cases h0 : O.length = 0
      · have hO0 : O = [] := List.length_eq_zero_iff.1 h0
        have HF : Hid (scanB right s.toList = O) := Lib.hid (by have h := HS.out.all; rw [scanAt_end, hO0] at h; rw [h, hO0]; rfl)
        have HO := Lib.hid h0
        rw [h0] at HR ⊢
        clear h0 hO0 hfew HS
        go_wp2_with fail
        go_ret
        exact ⟨_, rfl, by rw [HF.out]; exact toks_row HR.out HO.out hwZ, HB1.out.trans (HL.out.mono hwZ)⟩
      · obtain ⟨k, hk⟩ : ∃ k, O.length = k + 1 := ⟨O.length - 1, by omega⟩
        obtain ⟨g, c, hv, hkc, hgZ, hgw⟩ := row_some HR.out (by omega)
        cases hv
        have hta := toks_at HR.out rfl
        have hkO : k < O.length := by omega
        have hcl := tok_at k hta hkO
        obtain ⟨t, ht⟩ : ∃ t, O[k] = t := ⟨_, rfl⟩
        rw [ht] at hcl
        have hend : endL O = endsP t.w t.t := by
          unfold endL
          rw [List.getLast?_eq_getElem?, hk, Nat.add_sub_cancel, List.getElem?_eq_getElem hkO, ht]
        simp only [Nat.zero_add] at hcl
        obtain ⟨c0, c1, c2, c3⟩ := hcl
        have HEND := Lib.hid hend
        have hk6 : k ≤ 1000000 := by omega
        clear hend hta ht h0 hfew
        have cE := CE.out t.w t.f t.e ⟨t.t.toArray⟩ wr
        have HO := Lib.hid hk
        rw [hk] at HR hkO ⊢
        clear hk
        go_wp2_with fail
        refine cE.mono ?_
        rintro e w3 ⟨rfl, hb3⟩
        have hzr3 : Z ≤ w3.heap.size := by have := hb3.size; omega
        have HL3 : Hid (Below Z w1 w3) := Lib.hid (HL.out.trans (hb3.mono hzr))
        have HR3 : Hid (w3.ownsRow Z 55 4 (.slice (some ⟨g, 0, none⟩) (k + 1) oc) (k + 1) (tokCs O)) := Lib.hid (owns_later HR.out hb3)
        obtain ⟨b, hb⟩ : ∃ b, endsP t.w (⟨t.t.toArray⟩ : ByteArray).toList = b := ⟨_, rfl⟩
        rw [hb]
        have HEB : Hid (endL O = b) := Lib.hid (by rw [HEND.out, ← hb, ByteArray.toList_eq])
        clear cE hb c0 c1 c2 c3 hb3 HR HL HEND
        cases b
        · have HF : Hid (scanB right s.toList = O) := Lib.hid (by have h := HS.out.all; rw [scanAt_end, HEB.out] at h; simpa using h)
          clear HS
          go_wp2_with fail
          go_ret
          exact ⟨_, rfl, by rw [HF.out]; exact toks_row HR3.out HO.out hwZ, HB1.out.trans (HL3.out.mono hwZ)⟩
        · have HF : Hid (scanB right s.toList = O ++ [⟨5, [], s.size, s.size⟩]) := Lib.hid (by have h := HS.out.all; rw [scanAt_end, HEB.out] at h; simpa using h)
          clear HS
          go_wp2_with (at_builtin; refine wpList_append_own _ rfl _ _ 37 rfl Z 55 i0 (.agg #[.int .i64 0, .string ⟨#[]⟩, .int .i64 0, .int .i64 0]) 4 40 Tryd.underlying37 hi0 hz0 hz1 hz2 rfl (by decide) _ _ _ rfl (HR3.out.alloc _) ⟨w3.heap.size, 0, none⟩ 1 1 (tokCs [⟨5, [], s.size, s.size⟩]) rfl rfl ?c1 (plain_toks _) ?c3 ?c4 ?c5 ?_)
          case c1 => exact new_tok _ _
          case c3 => unfold maxLen; omega
          case c4 => omega
          case c5 => rw [World.size_alloc]; omega
          intro v5 w5 hv5 hg5 _
          have HV5 := Lib.hid hv5
          have HB5 := Lib.hid (below_grown HL3.out HR3.out hg5 hzr3)
          clear hv5 hg5
          go_wp2_with fail
          go_ret
          exact ⟨_, rfl, by rw [HF.out]; exact toks_row (n := k + 1 + 1) (by have := HV5.out; rw [← tokCs_app] at this; exact this) (by simp [HO.out]) hwZ, HB1.out.trans (HB5.out.mono hwZ)⟩
end Go.Proofs.YtapjomdplibanaaDoor.S

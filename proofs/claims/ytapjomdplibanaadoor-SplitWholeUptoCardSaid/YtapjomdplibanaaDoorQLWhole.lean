/- Law SplitWhole of layer 9. -/
import Derived.Test.YtapjomdplibanaaDoorQAlive
import Derived.Test.YtapjomdplibanaaDoorQWhole
import Derived.Test.YtapjomdplibanaaDoorQLPieces
import Derived.Test.YtapjomdplibanaaDoorSRef5
namespace Go.Proofs.YtapjomdplibanaaDoor.Q
open Go.RowKit
open Go.Lib hiding intOf
open Go.Proofs.YtapjomdplibanaaDoor.U Go.Proofs.YtapjomdplibanaaDoor.S Go.Proofs.YtapjomdplibanaaDoor.L

theorem pcs_get2 {B n c : Nat} {a : Option Addr} {W : World} {l : List PcP} {i : Nat} (h : PcsIn B W l (.slice a n c)) (hi : i < l.length) : ∃ g off, a = some ⟨g, off, none⟩ ∧ g < W.heap.size ∧ PcsAt W g off l := by
  obtain ⟨a', c', he, _, h2⟩ := h
  cases he
  obtain ⟨g, off, h3, _, h4, h5⟩ := h2.resolve_left (fun e => by rw [e] at hi; exact Nat.not_lt_zero _ hi)
  exact ⟨g, off, h3, h4, h5⟩
theorem fol_endAt : ∀ {l : List PcP} (a : Nat) {i : Nat} (hi : i < l.length), i + 1 = l.length → (l[i]).e = endE a l
  | [], _, _, hi, _ => by simp at hi
  | [_], _, 0, _, _ => rfl
  | _ :: q :: r, _, 0, _, h => by simp at h
  | p :: q :: r, a, i + 1, hi, h => by
    simp only [List.getElem_cons_succ]
    exact fol_endAt (l := q :: r) p.e (by simpa using hi) (by simpa using h)
set_option maxHeartbeats 16000000 in
set_option maxRecDepth 20000 in
theorem whole_short (s : ByteArray) (w : World) (hs : s.size ≤ 500) (hok : okB s = true) (hT : Tabs w) : Calls Tryd.prog 4 #[.string s] w fun e w' => e = .returned (.bool true) ∧ Below w.heap.size w w' := by
  have cR := ref_right s w (by omega)
  rw [hok] at cR
  have cX := fun X hX => pieces_any s X (by omega) hX
  have HW := Lib.hid (fun i (hi : i < (pieces s.toList).length) => whole_at s hok hi)
  have hlen : (pieces s.toList).length ≤ 501 := Nat.le_trans (pieces_len s) (by omega)
  obtain ⟨hF, hE⟩ := fol_pieces s.toList
  rw [tl_len] at hE
  have cS := fun X => refScan_any s X (by omega)
  rw [hok] at cS
  have hne := pieces_ne s.toList
  have hsl : (scanB true s.toList).length ≤ 501 := Nat.le_trans (scan_len true s) (by omega)
  obtain ⟨l, hl⟩ : ∃ l, pieces s.toList = l := ⟨_, rfl⟩
  rw [hl] at hlen hF hE HW hne
  simp only [hl] at cX
  clear hl
  obtain ⟨n, hn⟩ : ∃ n, l.length = n := ⟨_, rfl⟩
  have hn0 : 0 < n := by rw [← hn]; exact List.length_pos_iff.2 hne
  rw [hn] at hlen
  have HN := Lib.hid hn
  have HF := Lib.hid hF
  have HE := Lib.hid hE
  obtain ⟨Wt, hWt⟩ : ∃ k, (scanB true s.toList).length = k := ⟨_, rfl⟩
  rw [hWt] at hsl
  have HWT := Lib.hid hWt
  have HS0 : Hid (0 + (scanB true (s.toList.drop 0)).length = Wt) := Lib.hid (by rw [List.drop_zero, hWt, Nat.zero_add])
  have HCX := Lib.hid cX
  have HCS := Lib.hid cS
  have HTA := Lib.hid hT
  have HF0 : Hid (∀ (h : 0 < l.length), (l[0]).f = 0) := Lib.hid (fun h => by
    match l, h, hF with
    | p :: r, _, h2 => exact h2.1)
  clear hn hF hE hne hWt cX cS hT
  go_enter Tryd.func4, Tryd.ntmps4
  go_wp2_with fail
  refine cR.mono ?_
  rintro e w1 ⟨rfl, hb1⟩
  have HL1 := Lib.hid hb1
  have cX1 := HCX.out w1 (HTA.out.later hb1)
  clear cR hb1
  go_wp2_with fail
  refine cX1.mono ?_
  rintro e w2 ⟨v, rfl, hv, hb2⟩
  have HV2 := Lib.hid hv
  have HL2 := Lib.hid (HL1.out.trans (hb2.mono HL1.out.size))
  obtain ⟨va, vc, rfl, _, _⟩ := hv
  rw [HN.out] at HV2 ⊢
  clear cX1 hb2
  go_wp2_with fail
  go_loopw [5, 6, 7] (fun av uv iv wr => ∃ i at' wd : Nat, av = .int .i64 at' ∧ uv = .int .i64 wd ∧ iv = .int .i64 i ∧ i ≤ n ∧ at' ≤ s.size ∧ Hid (∀ (h : i < l.length), (l[i]).f = at') ∧ Hid (i = n → at' = s.size) ∧ Hid (wd + (scanB true (s.toList.drop at')).length = Wt) ∧ Hid (Below w2.heap.size w2 wr)) (fun _ _ iv _ => n - (intOf iv).toNat)
  case atStart => exact ⟨0, 0, 0, rfl, rfl, rfl, Nat.zero_le _, Nat.zero_le _, HF0, Lib.hid (fun h => by omega), HS0, Lib.hid (Below.refl _ _)⟩
  case round =>
    obtain ⟨i, at', wd, rfl, rfl, rfl, hi, hat, HA, HZ, HS, HL⟩ := hrel
    have hwd : wd ≤ 501 := by have := HS.out; omega
    by_cases hlt : i < n
    · have hil : i < l.length := by rw [HN.out]; exact hlt
      have hwa := HW.out i hil
      have hfa := HA.out hil
      obtain ⟨g, off, rfl, hg, hcells⟩ := pcs_get2 HV2.out hil
      obtain ⟨p0, p1, p2, p3⟩ := pc_at i (fun j u hj => (HL.out.cell (p := ⟨g, off + j, none⟩) hg).trans (hcells j u hj)) hil
      have hgw : g < wr.heap.size := Nat.lt_of_lt_of_le hg HL.out.size
      have HN1 : Hid (∀ (h : i + 1 < l.length), (l[i + 1]).f = (l[i]).e) := Lib.hid (fun h => fol_next HF.out i h)
      have HN2 : Hid (i + 1 = n → (l[i]).e = s.size) := Lib.hid (fun h => by rw [fol_endAt 0 hil (by rw [HN.out]; exact h), HE.out])
      obtain ⟨z, hz⟩ : ∃ z, l[i] = z := ⟨_, rfl⟩
      rw [hz] at p0 p1 p2 p3 hwa hfa HN1 HN2
      obtain ⟨f, e, d, j⟩ := z
      dsimp only at p0 p1 p2 p3 hfa
      subst hfa
      have hfe := hwa.fe
      have hes := hwa.es
      have hdj := hwa.dj
      have hdec := hwa.decl
      dsimp only at hfe hes hdj hdec
      have HOK : Hid (okB (s.extract f e) = true) := Lib.hid hwa.ok
      obtain ⟨k, hk⟩ : ∃ k, (scanB true (s.extract f e).toList).length = k := ⟨_, rfl⟩
      have HKK := Lib.hid hk
      have HWD : Hid (decide (0 < k) = (d || j)) := Lib.hid (by have h := hwa.words; dsimp only at h; rw [hk] at h; exact h)
      have HSUM : Hid ((scanB true (s.toList.drop f)).length = k + (scanB true (s.toList.drop e)).length) := Lib.hid (by have h := hwa.sum; dsimp only at h; rw [hk] at h; exact h)
      have hkb : k ≤ 501 := by have h1 := HSUM.out; have h2 := HS.out; omega
      have s0 : (0 : Int) ≤ (f : Int) := by omega
      have s1 : (f : Int) ≤ (e : Int) := by omega
      have s2 : (e : Int) ≤ (s.size : Int) := by omega
      clear hz hwa hk hcells hil
      by_cases h0 : i = 0
      · cases d
        · cases j
          · clear hdj hdec
            have hk : k = 0 := by
              have h := HWD.out
              simpa using h
            subst hk
            have hi0 : decide (0 < i) = false := by simp [h0]
            clear h0
            go_upto_region 12 with fail
            have c12 : ∀ X, Below wr.heap.size wr X → Calls Tryd.prog 16 #[.string (s.extract f e)] X fun e' w' => ∃ a cp, e' = .returned (.slice a 0 cp) ∧ Hid (Below wr.heap.size wr w') := fun X hX => by
              refine (refScan_any (s.extract f e) X (by rw [ByteArray.size_extract]; omega)).mono ?_
              rintro e' w' ⟨v, rfl, hv, hb⟩
              obtain ⟨a, cp, rfl, _, _⟩ := hv
              rw [HOK.out, HKK.out]
              exact ⟨a, cp, rfl, Lib.hid (hX.trans (hb.mono hX.size))⟩
            go_region_with (first
              | (go_at_call 16; (with_reducible refine (c12 _ ?_).mono ?_); (exact ⟨rfl, rfl, rfl, Nat.le_refl _, fun _ _ => rfl⟩); rintro e3 w6 ⟨a6, c6, rfl, HB6⟩))
            all_goals
              have q2 := (HB6.out.cell (p := ⟨g, off + i * 4 + 2, none⟩) hgw).trans p2
              have q3 := (HB6.out.cell (p := ⟨g, off + i * 4 + 3, none⟩) hgw).trans p3
              have q1 := (HB6.out.cell (p := ⟨g, off + i * 4 + 1, none⟩) hgw).trans p1
              have HL6 := Lib.hid (HL.out.trans (HB6.out.mono HL.out.size))
              have e9 : IntKind.i64.wrap ((wd : Int) + 0) = (wd : Int) + 0 := IntWalk.i64_in _ (by omega)
              clear p0 p1 p2 p3 c12
              go_wp2_with fail
              go_roundw
              case rel => exact ⟨i + 1, e, wd + 0, by simp, by simp, by go_num, by omega, by omega, HN1, HN2, Lib.hid (by have h1 := HS.out; have h2 := HSUM.out; omega), HL6⟩
              case measure => simp [intOf]; omega
          · clear hdj hdec
            have hk : 0 < k := by
              have h := HWD.out
              simpa using h

            have hi0 : decide (0 < i) = false := by simp [h0]
            clear h0
            go_upto_region 12 with fail
            have c12 : ∀ X, Below wr.heap.size wr X → Calls Tryd.prog 16 #[.string (s.extract f e)] X fun e' w' => ∃ a cp, e' = .returned (.slice a k cp) ∧ Hid (Below wr.heap.size wr w') := fun X hX => by
              refine (refScan_any (s.extract f e) X (by rw [ByteArray.size_extract]; omega)).mono ?_
              rintro e' w' ⟨v, rfl, hv, hb⟩
              obtain ⟨a, cp, rfl, _, _⟩ := hv
              rw [HOK.out, HKK.out]
              exact ⟨a, cp, rfl, Lib.hid (hX.trans (hb.mono hX.size))⟩
            go_region_with (first
              | (go_at_call 16; (with_reducible refine (c12 _ ?_).mono ?_); (exact ⟨rfl, rfl, rfl, Nat.le_refl _, fun _ _ => rfl⟩); rintro e3 w6 ⟨a6, c6, rfl, HB6⟩))
            all_goals
              have q2 := (HB6.out.cell (p := ⟨g, off + i * 4 + 2, none⟩) hgw).trans p2
              have q3 := (HB6.out.cell (p := ⟨g, off + i * 4 + 3, none⟩) hgw).trans p3
              have q1 := (HB6.out.cell (p := ⟨g, off + i * 4 + 1, none⟩) hgw).trans p1
              have HL6 := Lib.hid (HL.out.trans (HB6.out.mono HL.out.size))
              have e9 : IntKind.i64.wrap ((wd : Int) + (k : Int)) = (wd : Int) + (k : Int) := IntWalk.i64_in _ (by omega)
              clear p0 p1 p2 p3 c12
              go_wp2_with fail
              go_roundw
              case rel => exact ⟨i + 1, e, wd + k, by simp, by simp, by go_num, by omega, by omega, HN1, HN2, Lib.hid (by have h1 := HS.out; have h2 := HSUM.out; omega), HL6⟩
              case measure => simp [intOf]; omega
        · have hj : j = false := hdj rfl
          subst hj
          clear hdj hdec
          have hk : 0 < k := by
            have h := HWD.out
            simpa using h

          have hi0 : decide (0 < i) = false := by simp [h0]
          clear h0
          go_upto_region 12 with fail
          have c12 : ∀ X, Below wr.heap.size wr X → Calls Tryd.prog 16 #[.string (s.extract f e)] X fun e' w' => ∃ a cp, e' = .returned (.slice a k cp) ∧ Hid (Below wr.heap.size wr w') := fun X hX => by
            refine (refScan_any (s.extract f e) X (by rw [ByteArray.size_extract]; omega)).mono ?_
            rintro e' w' ⟨v, rfl, hv, hb⟩
            obtain ⟨a, cp, rfl, _, _⟩ := hv
            rw [HOK.out, HKK.out]
            exact ⟨a, cp, rfl, Lib.hid (hX.trans (hb.mono hX.size))⟩
          go_region_with (first
            | (go_at_call 16; (with_reducible refine (c12 _ ?_).mono ?_); (exact ⟨rfl, rfl, rfl, Nat.le_refl _, fun _ _ => rfl⟩); rintro e3 w6 ⟨a6, c6, rfl, HB6⟩))
          all_goals
            have q2 := (HB6.out.cell (p := ⟨g, off + i * 4 + 2, none⟩) hgw).trans p2
            have q3 := (HB6.out.cell (p := ⟨g, off + i * 4 + 3, none⟩) hgw).trans p3
            have q1 := (HB6.out.cell (p := ⟨g, off + i * 4 + 1, none⟩) hgw).trans p1
            have HL6 := Lib.hid (HL.out.trans (HB6.out.mono HL.out.size))
            have e9 : IntKind.i64.wrap ((wd : Int) + (k : Int)) = (wd : Int) + (k : Int) := IntWalk.i64_in _ (by omega)
            clear p0 p1 p2 p3 c12
            go_wp2_with fail
            go_roundw
            case rel => exact ⟨i + 1, e, wd + k, by simp, by simp, by go_num, by omega, by omega, HN1, HN2, Lib.hid (by have h1 := HS.out; have h2 := HSUM.out; omega), HL6⟩
            case measure => simp [intOf]; omega
      · obtain ⟨hd, hlt3⟩ := hdec (by omega)
        subst hd
        have hj : j = false := hdj rfl
        subst hj
        have hne : ((e : Int) == (f : Int)) = false := by
          have h : ¬ (e : Int) = (f : Int) := by omega
          simpa using h
        clear hdj hdec
        have hk : 0 < k := by
          have h := HWD.out
          simpa using h

        have hi0 : 0 < i := by omega
        clear h0
        go_upto_region 12 with fail
        have c12 : ∀ X, Below wr.heap.size wr X → Calls Tryd.prog 16 #[.string (s.extract f e)] X fun e' w' => ∃ a cp, e' = .returned (.slice a k cp) ∧ Hid (Below wr.heap.size wr w') := fun X hX => by
          refine (refScan_any (s.extract f e) X (by rw [ByteArray.size_extract]; omega)).mono ?_
          rintro e' w' ⟨v, rfl, hv, hb⟩
          obtain ⟨a, cp, rfl, _, _⟩ := hv
          rw [HOK.out, HKK.out]
          exact ⟨a, cp, rfl, Lib.hid (hX.trans (hb.mono hX.size))⟩
        go_region_with (first
          | (go_at_call 16; (with_reducible refine (c12 _ ?_).mono ?_); (exact ⟨rfl, rfl, rfl, Nat.le_refl _, fun _ _ => rfl⟩); rintro e3 w6 ⟨a6, c6, rfl, HB6⟩))
        all_goals
          have q2 := (HB6.out.cell (p := ⟨g, off + i * 4 + 2, none⟩) hgw).trans p2
          have q3 := (HB6.out.cell (p := ⟨g, off + i * 4 + 3, none⟩) hgw).trans p3
          have q1 := (HB6.out.cell (p := ⟨g, off + i * 4 + 1, none⟩) hgw).trans p1
          have HL6 := Lib.hid (HL.out.trans (HB6.out.mono HL.out.size))
          have e9 : IntKind.i64.wrap ((wd : Int) + (k : Int)) = (wd : Int) + (k : Int) := IntWalk.i64_in _ (by omega)
          clear p0 p1 p2 p3 c12
          go_wp2_with fail
          go_roundw
          case rel => exact ⟨i + 1, e, wd + k, by simp, by simp, by go_num, by omega, by omega, HN1, HN2, Lib.hid (by have h1 := HS.out; have h2 := HSUM.out; omega), HL6⟩
          case measure => simp [intOf]; omega
    · obtain rfl : i = n := by omega
      have hae := HZ.out rfl
      subst hae
      have HWW : Hid (wd = Wt) := Lib.hid (by
        have h := HS.out
        rw [tl_end s (Nat.le_refl _)] at h
        exact h)
      have HL3 := Lib.hid (HL2.out.trans (HL.out.mono HL2.out.size))
      have cA := alive_any wr (HTA.out.later HL3.out)
      have hn1 : (0 : Int) < (i : Int) := by omega
      clear hlt
      go_wp2_with fail
      refine cA.mono ?_
      rintro e w6 ⟨rfl, hb6⟩
      have HL6 := Lib.hid (HL3.out.trans (hb6.mono HL3.out.size))
      clear cA hb6
      go_wp2_with fail
      refine (HCS.out w6).mono ?_
      rintro e w7 ⟨v7, rfl, hv7, hb7⟩
      obtain ⟨a7, c7, rfl, _, _⟩ := hv7
      have HL7 := Lib.hid (HL6.out.trans (hb7.mono HL6.out.size))
      rw [HWT.out, ← HWW.out]
      clear hb7
      go_wp2_with fail
      go_ret
      exact ⟨rfl, HL7.out⟩
set_option maxHeartbeats 8000000 in
set_option maxRecDepth 20000 in
theorem whole_any (s : ByteArray) (w : World) (hs : s.size ≤ 1048576) (hT : Tabs w) : Calls Tryd.prog 4 #[.string s] w fun e w' => e = .returned (.bool true) ∧ Below w.heap.size w w' := by
  by_cases h5 : s.size ≤ 500 ∧ okB s = true
  · exact whole_short s w h5.1 h5.2 hT
  · have cR := ref_right_big s w hs
    have cA := fun X (hX : Below w.heap.size w X) => alive_any X (hT.later hX)
    by_cases h6 : s.size ≤ 500
    · have hok : okB s = false := by
        cases h : okB s
        · rfl
        · exact absurd ⟨h6, h⟩ h5
      rw [hok] at cR
      clear h5
      go_enter Tryd.func4, Tryd.ntmps4
      go_wp2_with fail
      refine cR.mono ?_
      rintro e w1 ⟨rfl, hb1⟩
      have c2 := cA w1 hb1
      have HL1 := Lib.hid hb1
      clear cR cA hb1
      go_wp2_with fail
      refine c2.mono ?_
      rintro e w3 ⟨rfl, hb3⟩
      go_wp2_with fail
      go_ret
      exact ⟨rfl, HL1.out.trans (hb3.mono HL1.out.size)⟩
    · have hz : (500 : Int) < (s.size : Int) := by omega
      generalize okB s = ok at cR
      clear h5
      go_enter Tryd.func4, Tryd.ntmps4
      go_wp2_with fail
      refine cR.mono ?_
      rintro e w1 ⟨rfl, hb1⟩
      have c2 := cA w1 hb1
      have HL1 := Lib.hid hb1
      clear cR cA hb1
      go_wp2_with fail
      refine c2.mono ?_
      rintro e w3 ⟨rfl, hb3⟩
      go_wp2_with fail
      go_ret
      exact ⟨rfl, HL1.out.trans (hb3.mono HL1.out.size)⟩
end Go.Proofs.YtapjomdplibanaaDoor.Q

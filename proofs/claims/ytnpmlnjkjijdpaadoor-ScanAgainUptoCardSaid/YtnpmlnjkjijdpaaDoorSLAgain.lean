/- Law ScanAgain under Prg. -/
import Derived.Test.YtnpmlnjkjijdpaaDoorSLEnds
import Derived.BigQuiet
namespace Go.Proofs.YtnpmlnjkjijdpaaDoor.S
open Go.RowKit
open Go.Lib hiding intOf
open Go.Proofs.YtnpmlnjkjijdpaaDoor.U Go.Proofs.YtnpmlnjkjijdpaaDoor.L

theorem bad_no4 {t : TokP} (h : ¬ t.w = 4) : ¬ Bad t := fun hb => h hb.1
theorem bad_not {t : TokP} {x : ByteArray} (hx : x.toList = t.t) (h1 : (x.toList == [47]) = false) (h2 : (x.toList == [34]) = false) (h3 : ∀ h : 0 < x.size, x[0].toNat < 128) : ¬ Bad t := fun hb => by
  rcases hb.2 with h | h | ⟨c, r, h, hc⟩
  · rw [hx, h] at h1; simp at h1
  · rw [hx, h] at h2; simp at h2
  · have hz : 0 < x.size := by rw [← tl_len, hx, h]; simp
    have h4 := tl_get x hz
    rw [hx, h] at h4
    simp at h4
    have := h3 hz
    rw [← h4] at this; omega
theorem kt_at {l M : List TokP} (h : M.map kt = l.map kt) {i : Nat} (hi : i < l.length) (hM : i < M.length) : M[i].w = l[i].w ∧ (l[i].w ≠ 5 → M[i].t = l[i].t) := by
  have h1 : (M.map kt)[i]? = (l.map kt)[i]? := by rw [h]
  rw [List.getElem?_map, List.getElem?_map, List.getElem?_eq_getElem hi, List.getElem?_eq_getElem hM] at h1
  simp only [Option.map_some, Option.some.injEq] at h1
  have h2 : M[i].w = l[i].w := congrArg Prod.fst h1
  refine ⟨h2, fun h5 => ?_⟩
  have h3 := congrArg Prod.snd h1
  simp only [kt] at h3
  rw [if_neg (by rw [h2]; exact h5), if_neg h5] at h3
  exact h3
set_option maxHeartbeats 8000000 in
set_option maxRecDepth 20000 in
theorem again_short (P : Prg) (s : ByteArray) (w : World) (hs : s.size ≤ 500) (hT : Tabs w) : Calls Tryd.prog 6 #[.string s] w fun e w' => e = .returned (.bool true) ∧ Below w.heap.size w w' := by
  have cX := P.scan s w (by omega) hT
  have hag := scan_again (okB s) (okB ⟨(briefL (scanB (okB s) s.toList)).toArray⟩) s.toList
  obtain ⟨l, hl⟩ : ∃ l, scanB (okB s) s.toList = l := ⟨_, rfl⟩
  have hln : l.length ≤ 1000 := by have := scan_len (okB s) s; rw [hl] at this; omega
  have hbl : (briefL l).length ≤ 1003002 := by have := brief_small (right := okB s) (s := s) (by omega); rwa [hl] at this
  rw [hl] at cX hag
  clear hl
  obtain ⟨z, hz⟩ : ∃ z, (⟨(briefL l).toArray⟩ : ByteArray) = z := ⟨_, rfl⟩
  have hzl : z.toList = briefL l := by rw [← hz, tl_arr]
  have hzz : z.size ≤ 1003002 := by rw [← tl_len, hzl]; exact hbl
  rw [hz, ← hzl] at hag
  have CZ := fun X (hX : Below w.heap.size w X) => P.scan z X (by omega) (hT.later hX)
  obtain ⟨M, hM⟩ : ∃ M, scanB (okB z) z.toList = M := ⟨_, rfl⟩
  simp only [hM] at CZ
  rw [hM] at hag
  replace CZ := Lib.hid CZ
  have CB := fun B v X h => P.brief B l v X h (by omega) (by omega)
  simp only [hz] at CB
  replace CB := Lib.hid CB
  have CA := Lib.hid (fun X (hX : Below w.heap.size w X) => alive_any P X (hT.later hX))
  have HAG : Hid ((∀ i (h : i < l.length), ¬ Bad l[i]) → M.map kt = l.map kt) := Lib.hid (fun h => hag (fun t ht => by
    obtain ⟨i, hi, rfl⟩ := List.getElem_of_mem ht
    exact h i hi))
  clear hag hM hzl hzz hz hbl
  obtain ⟨n, hn⟩ : ∃ n, l.length = n := ⟨_, rfl⟩
  have HN := Lib.hid hn
  rw [hn] at hln
  go_enter Tryd.func6, Tryd.ntmps6
  go_wp2_with fail
  refine cX.mono ?_
  rintro e w1 ⟨x, rfl, hx, hb1⟩
  have HV := Lib.hid hx
  obtain ⟨xa, xc, rfl, _, hxc⟩ := hx
  rw [hn] at HV ⊢
  have HXC := Lib.hid hxc
  have HB1 := Lib.hid hb1
  clear hn cX hxc hb1
  go_wp2_with fail
  go_loop [4] (fun iv => ∃ i : Nat, iv = .int .i64 i ∧ i ≤ n ∧ Hid (∀ j (h : j < l.length), j < i → ¬ Bad l[j])) (fun iv => n - (intOf iv).toNat)
  case atStart => exact ⟨0, rfl, Nat.zero_le _, Lib.hid (fun _ _ h => by omega)⟩
  case round =>
    obtain ⟨i, rfl, hi, HNB⟩ := hrel
    by_cases hlt : i < n
    · have hil : i < l.length := by rw [HN.out]; exact hlt
      obtain ⟨g, off, rfl, hBg, hgw, hat⟩ := HXC.out.resolve_left (fun h => by rw [h] at hil; exact Nat.not_lt_zero _ hil)
      obtain ⟨p0, p1, p2, p3⟩ := tok_at i hat hil
      have hnext : ¬ Bad l[i] → (∀ j (h : j < l.length), j < i + 1 → ¬ Bad l[j]) := fun h j hj h1 => by
        by_cases e : j < i
        · exact HNB.out j hj e
        · obtain rfl : j = i := by omega
          exact h
      have hbn := @bad_no4 l[i]
      have hbt := @bad_not l[i]
      generalize l[i] = t at p0 p1 p2 p3 hnext hbn hbt
      have hxl := tl_arr t.t
      obtain ⟨x, hx⟩ : ∃ x : ByteArray, (⟨t.t.toArray⟩ : ByteArray) = x := ⟨_, rfl⟩
      rw [hx] at p1 hxl
      clear hat hx p2 p3
      by_cases h4 : t.w = 4
      · have e4 : (t.w == 4) = true := by rw [h4]; rfl
        clear h4 hbn
        cases e1 : (x.toList == [47])
        · cases e2 : (x.toList == [34])
          · by_cases h0 : 0 < x.size
            · obtain ⟨c, hc⟩ : ∃ c, x[0] = c := ⟨_, rfl⟩
              have hc256 : c.toNat < 256 := UInt8.toNat_lt c
              by_cases h128 : c.toNat < 128
              · have HNB2 := Lib.hid (hnext (hbt hxl e1 e2 (fun _ => by rw [hc]; exact h128)))
                clear hnext hbt hxl
                go_wp2_with fail
                go_round
                case rel => exact ⟨i + 1, by go_num, by omega, HNB2⟩
                case measure => simp [intOf]; omega
              · clear hnext hbt hxl
                go_wp2_with fail
                refine (CA.out w1 HB1.out).mono ?_
                rintro e w5 ⟨rfl, hb5⟩
                go_wp2_with fail
                go_ret
                exact ⟨rfl, HB1.out.trans (hb5.mono HB1.out.size)⟩
            · have HNB2 := Lib.hid (hnext (hbt hxl e1 e2 (fun h => absurd h h0)))
              clear hnext hbt hxl
              go_wp2_with fail
              go_round
              case rel => exact ⟨i + 1, by go_num, by omega, HNB2⟩
              case measure => simp [intOf]; omega
          · clear hnext hbt hxl
            go_wp2_with fail
            refine (CA.out w1 HB1.out).mono ?_
            rintro e w5 ⟨rfl, hb5⟩
            go_wp2_with fail
            go_ret
            exact ⟨rfl, HB1.out.trans (hb5.mono HB1.out.size)⟩
        · clear hnext hbt hxl
          go_wp2_with fail
          refine (CA.out w1 HB1.out).mono ?_
          rintro e w5 ⟨rfl, hb5⟩
          go_wp2_with fail
          go_ret
          exact ⟨rfl, HB1.out.trans (hb5.mono HB1.out.size)⟩
      · have e4 : (t.w == 4) = false := by simpa using h4
        have HNB2 := Lib.hid (hnext (hbn h4))
        clear hnext hbn hbt hxl h4
        go_wp2_with fail
        go_round
        case rel => exact ⟨i + 1, by go_num, by omega, HNB2⟩
        case measure => simp [intOf]; omega
    · obtain rfl : i = n := by omega
      have hk := HAG.out (fun j hj => HNB.out j hj (by have := HN.out; omega))
      have hml : M.length = i := by have := congrArg List.length hk; rw [List.length_map, List.length_map, HN.out] at this; exact this
      have HK := Lib.hid hk
      have HML := Lib.hid hml
      have cB := CB.out _ _ w1 HV.out
      clear hk hml CB HAG HNB
      go_wp2_with fail
      refine cB.mono ?_
      rintro e w2 ⟨rfl, hb2⟩
      have HB2 := Lib.hid (HB1.out.trans (hb2.mono HB1.out.size))
      have HB12 := Lib.hid hb2
      have cZ := CZ.out w2 HB2.out
      clear cB hb2 CZ
      go_wp2_with fail
      refine cZ.mono ?_
      rintro e w3 ⟨y, rfl, hy, hb3⟩
      have HB3 := Lib.hid (HB2.out.trans (hb3.mono HB2.out.size))
      have HB13 : Hid (Below w1.heap.size w1 w3) := Lib.hid (HB12.out.trans (hb3.mono HB12.out.size))
      obtain ⟨ya, yc, rfl, _, hyc⟩ := hy
      rw [HML.out]
      have HYC := Lib.hid hyc
      clear cZ hb3 hyc
      go_wp2_with fail
      go_loopw [6] (fun iv wr => ∃ k : Nat, iv = .int .i64 k ∧ k ≤ i ∧ Hid (Below w3.heap.size w3 wr)) (fun iv _ => i - (intOf iv).toNat)
      case atStart => exact ⟨0, rfl, Nat.zero_le _, Lib.hid (Below.refl _ _)⟩
      case round =>
        obtain ⟨k, rfl, hk, HL⟩ := hrel
        by_cases hlt : k < i
        · have hkl : k < l.length := by rw [HN.out]; exact hlt
          have hkM : k < M.length := by rw [HML.out]; exact hlt
          obtain ⟨g, off, rfl, hBg, hgw, hat⟩ := HXC.out.resolve_left (fun h => by rw [h] at hkl; exact Nat.not_lt_zero _ hkl)
          obtain ⟨g2, off2, rfl, hBg2, hgw2, hat2⟩ := HYC.out.resolve_left (fun h => by rw [h] at hkM; exact Nat.not_lt_zero _ hkM)
          have hb13 : Below w1.heap.size w1 wr := HB13.out.trans (HL.out.mono HB13.out.size)
          obtain ⟨p0, p1, p2, p3⟩ := tok_at k (fun j u hj => (hb13.cell (p := ⟨g, off + j, none⟩) hgw).trans (hat j u hj)) hkl
          obtain ⟨q0, q1, q2, q3⟩ := tok_at k (fun j u hj => (HL.out.cell (p := ⟨g2, off2 + j, none⟩) hgw2).trans (hat2 j u hj)) hkM
          obtain ⟨h1, h2⟩ := kt_at HK.out hkl hkM
          generalize l[k] = t at p0 p1 p2 p3 h1 h2
          generalize M[k] = t2 at q0 q1 q2 q3 h1 h2
          rw [h1] at q0
          clear hat hat2 p2 p3 q2 q3 hb13 h1
          obtain ⟨tw, tt, tf, te⟩ := t
          simp only at p0 p1 q0 h2
          by_cases h5 : tw = 5
          · have e5 : (tw == 5) = true := by rw [h5]; rfl
            clear h2 h5
            go_upto_region 16 with fail
            go_quiet (fail)
            go_wp2_with fail
            go_roundw
            case rel => exact ⟨k + 1, by go_num, by omega, Lib.hid (drewB HL.out _)⟩
            case measure => simp [intOf]; omega
          · have e5 : (tw == 5) = false := by simpa using h5
            rw [h2 h5] at q1
            have ew : (tw == tw) = true := by simp
            obtain ⟨x, hx⟩ : ∃ x : ByteArray, (⟨tt.toArray⟩ : ByteArray) = x := ⟨_, rfl⟩
            rw [hx] at p1 q1
            have ex : (x.toList == x.toList) = true := by simp
            clear h2 h5 hx
            go_upto_region 16 with fail
            go_quiet (fail)
            go_wp2_with fail
            go_roundw
            case rel => exact ⟨k + 1, by go_num, by omega, Lib.hid (drewB HL.out _)⟩
            case measure => simp [intOf]; omega
        · obtain rfl : k = i := by omega
          have hb := HB3.out.trans (HL.out.mono HB3.out.size)
          have HBf := Lib.hid hb
          clear hb
          go_wp2_with fail
          refine (CA.out wr HBf.out).mono ?_
          rintro e w5 ⟨rfl, hb5⟩
          go_wp2_with fail
          go_ret
          exact ⟨rfl, HBf.out.trans (hb5.mono HBf.out.size)⟩
set_option maxHeartbeats 8000000 in
set_option maxRecDepth 20000 in
theorem again_any (P : Prg) (s : ByteArray) (w : World) (hs : s.size ≤ 1099511627776) (hT : Tabs w) : Calls Tryd.prog 6 #[.string s] w fun e w' => e = .returned (.bool true) ∧ Below w.heap.size w w' := by
  by_cases h5 : s.size ≤ 500
  · exact again_short P s w h5 hT
  · have cX := P.scan s w hs hT
    have cA := fun X hX => alive_any P X (hT.later hX)
    have hz : ¬ (s.size : Int) ≤ 500 := by omega
    have hz2 : (500 : Int) < (s.size : Int) := by omega
    go_enter Tryd.func6, Tryd.ntmps6
    go_wp2_with fail
    refine cX.mono ?_
    rintro e w1 ⟨x, rfl, hx, hb1⟩
    clear hx cX
    go_wp2_with fail
    refine (cA w1 hb1).mono ?_
    rintro e w3 ⟨rfl, hb3⟩
    go_wp2_with fail
    go_ret
    exact ⟨rfl, hb1.trans (hb3.mono hb1.size)⟩
end Go.Proofs.YtnpmlnjkjijdpaaDoor.S

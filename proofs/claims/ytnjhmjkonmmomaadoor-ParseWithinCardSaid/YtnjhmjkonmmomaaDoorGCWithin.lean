/- The texts JWithin, JLWithin, CWithin, joined. -/
import Derived.Test.YtnjhmjkonmmomaaDoorG13
import Derived.Test.YtnjhmjkonmmomaaDoorG11
import Derived.Test.YtnjhmjkonmmomaaDoorG16
import Derived.Test.YtnjhmjkonmmomaaDoorCards
import Derived.Test.YtnjhmjkonmmomaaDoorTie
import Derived.Test.YtnjhmjkonmmomaaDoorG14
import Derived.WalkKit
import Derived.ProofKit
import Derived.OpenShut
import Derived.Lay
import Derived.LaidOnce
import Derived.SevenTiedAt
import Derived.Deep.DeepHandedRow
import Derived.PinnedBridge
/- JWithin: Do Kids stand within their part: the contract of the law's within. -/
section
namespace Go.Proofs.YtnjhmjkonmmomaaDoor.J
open Go.RowKit
open Go.Lib hiding intOf
open Go.Proofs.YtnjhmjkonmmomaaDoor.U Go.Proofs.YtnjhmjkonmmomaaDoor.S Go.Proofs.YtnjhmjkonmmomaaDoor.T
open Go.Proofs.YtnjhmjkonmmomaaDoor.K (withinB withinL fromP endP)

def WithinC (p : Pt) : Prop := ∀ (lv : Value) (R : Nat → Prop) (w : World) (u v : Int), KidsIn w R p lv → wtP p ≤ 1099511627776 →
  Calls Tryd.prog 17 #[arg p lv, .int .i64 u, .int .i64 v] w fun e w' => e = .returned (.bool (withinB p u v)) ∧ Below w.heap.size w w'
theorem withinL_drop {l : List Pt} {i : Nat} (h : i < l.length) (u v : Int) : withinL (l.drop i) u v = if fromP l[i] = 0 ∧ endP l[i] = 0 then withinL (l.drop (i + 1)) u v else withinB l[i] u v && withinL (l.drop (i + 1)) (endP l[i]) v := by
  rw [List.drop_eq_getElem_cons h, withinL]
set_option maxHeartbeats 4000000 in
theorem within_any : ∀ p, WithinC p := Pt.ind fun k t f e ks IH lv R w u v hv hw => by
  obtain ⟨a, c, rfl⟩ := kids_form hv
  obtain ⟨_, hcap, hrow⟩ := kids_row hv
  have HR := Lib.hid hrow
  have HIH := Lib.hid IH
  rw [wtP] at hw
  have hlb : ks.length ≤ 1099511627776 := Nat.le_trans (wtL_length ks) (by omega)
  have HWM := Lib.hid (fun v (h : v ∈ ks) => Nat.le_trans (wtL_mem h) (show wtL ks ≤ 1099511627776 by omega))
  obtain ⟨n, hn⟩ : ∃ n, ks.length = n := ⟨_, rfl⟩
  have HN := Lib.hid hn
  simp only [arg, five]
  rw [hn]
  rw [hn] at hlb
  obtain ⟨kb, hkb⟩ : ∃ x, bstr k = x := ⟨_, rfl⟩
  obtain ⟨tb, htb⟩ : ∃ x, bstr t = x := ⟨_, rfl⟩
  rw [hkb, htb]
  obtain ⟨b, hb⟩ : ∃ b, withinB (.mk k t f e ks) u v = b := ⟨_, rfl⟩
  rw [hb]
  unfold withinB at hb
  clear hv hrow IH hw hn hcap hkb htb
  by_cases h1 : f < u
  · rw [if_pos (.inl h1)] at hb
    subst hb
    go_enter Tryd.func17, Tryd.ntmps17
    go_wp2_with fail
    go_ret
    exact ⟨rfl, (Below.refl _ _).alloc (Nat.le_refl _) _⟩
  by_cases h2 : v < e
  · rw [if_pos (.inr (.inl h2))] at hb
    subst hb
    go_enter Tryd.func17, Tryd.ntmps17
    go_wp2_with fail
    go_ret
    exact ⟨rfl, (Below.refl _ _).alloc (Nat.le_refl _) _⟩
  by_cases h3 : e < f
  · rw [if_pos (.inr (.inr h3))] at hb
    subst hb
    go_enter Tryd.func17, Tryd.ntmps17
    go_wp2_with fail
    go_ret
    exact ⟨rfl, (Below.refl _ _).alloc (Nat.le_refl _) _⟩
  rw [if_neg (by omega)] at hb
  have HF := Lib.hid (show withinL (ks.drop 0) f e = b from hb)
  clear hb
  go_enter Tryd.func17, Tryd.ntmps17
  go_wp2_with fail
  obtain ⟨w1, hw1, hq1, hb1, hz1⟩ := new_block w (.cells #[.string kb, .string tb, .int .i64 f, .int .i64 e, .slice a n c] 24)
  rw [hw1]
  have HQ1 := Lib.hid hq1
  have HB1 := Lib.hid hb1
  clear hq1 hb1 hw1
  go_loopw [7, 8] (fun av iv wr => ∃ (i : Nat) (at' : Int), iv = .int .i64 i ∧ av = .int .i64 at' ∧ i ≤ n ∧ Hid (withinL (ks.drop i) at' e = b) ∧ Hid (Below w1.heap.size w1 wr)) (fun _ iv _ => n - (Go.RowKit.intOf iv).toNat)
  case atStart => exact ⟨0, f, rfl, rfl, Nat.zero_le _, HF, Lib.hid (Below.refl _ _)⟩
  case round =>
    obtain ⟨i, at', rfl, rfl, hi, HI, HB⟩ := hrel
    have hq := (HB.out.block w.heap.size hz1).trans HQ1.out
    obtain ⟨⟨k0, k1, k2, k3, k4⟩, kf⟩ := cells_five hq
    have hz2 := HB.out.size
    clear hq
    by_cases hlt : i < n
    · have hll : i < ks.length := by rw [HN.out]; exact hlt
      have hI := HI.out
      rw [withinL_drop hll] at hI
      obtain ⟨g, off, xs, rfl, hg, hc, hp⟩ := HR.out.resolve_left (fun h => by rw [h] at hll; exact Nat.not_lt_zero _ hll)
      have hb0 : Below w.heap.size w wr := HB1.out.trans (HB.out.mono HB1.out.size)
      obtain ⟨k', t', f', e', ks', a', c', hK⟩ := kid_at hp hc i hll
      have hK := hK.below hb0
      have hfe : fromP ks[i] = f' ∧ endP ks[i] = e' := by rw [hK.eq]; exact ⟨rfl, rfl⟩
      rw [hfe.1, hfe.2] at hI
      have cP := fun X (hX : Below wr.heap.size wr X) => (HIH.out ks[i] (List.getElem_mem hll)) (.slice a' ks'.length c') R X at' e (by rw [hK.eq]; exact kids_below hK.kids hX) (HWM.out _ (List.getElem_mem hll))
      obtain ⟨b', hb'⟩ : ∃ b', withinB ks[i] at' e = b' := ⟨_, rfl⟩
      rw [hb'] at hI cP
      simp only [hK.eq, arg, five] at cP
      have HI2 := Lib.hid hI
      have j0 := hK.k0
      have j1 := hK.k1
      have j2 := hK.k2
      have j3 := hK.k3
      have j4 := hK.k4
      obtain ⟨kb', hkb'⟩ : ∃ x, bstr k' = x := ⟨_, rfl⟩
      obtain ⟨tb', htb'⟩ : ∃ x, bstr t' = x := ⟨_, rfl⟩
      rw [hkb'] at j0 cP
      rw [htb'] at j1 cP
      obtain ⟨n', hn'⟩ : ∃ x, ks'.length = x := ⟨_, rfl⟩
      rw [hn'] at j4 cP
      clear hI hb' hc hp hK hb0 HI hfe hkb' htb' hn'
      go_upto_region 8 with fail
      obtain ⟨w2, hw2, hq2, hb2, hzz⟩ := new_block wr (.cells #[.string kb', .string tb', .int .i64 f', .int .i64 e', .slice a' n' c'] 24)
      rw [hw2]
      obtain ⟨⟨m0, m1, m2, m3, m4⟩, mf⟩ := cells_five hq2
      have kw : ∀ {j v}, wr.cell? ⟨w.heap.size, j, none⟩ = some v → w2.cell? ⟨w.heap.size, j, none⟩ = some v := fun h => (hb2.cell (by show w.heap.size < wr.heap.size; omega)).trans h
      have x2 := kw k2
      have x3 := kw k3
      have cP2 := cP w2 hb2
      have HQ2 := Lib.hid hq2
      have HBw := Lib.hid hb2
      have HZZ := Lib.hid hzz
      have HB2 := Lib.hid (HB.out.trans (hb2.mono hz2))
      clear hw2 hq2 hb2 cP k0 k1 k2 k3 k4 kf j0 j1 j2 j3 j4 kw hzz
      by_cases hz : f' = 0 ∧ e' = 0
      · obtain ⟨rfl, rfl⟩ := hz
        have hI := HI2.out
        rw [if_pos ⟨rfl, rfl⟩] at hI
        have HI3 := Lib.hid hI
        clear hI HI2
        go_wp2_with fail
        go_roundw
        case rel => exact ⟨i + 1, at', by go_num, rfl, by omega, HI3, HB2⟩
        case measure => simp [Go.RowKit.intOf]; omega
      · have hI := HI2.out
        rw [if_neg hz] at hI
        have HI3 := Lib.hid hI
        have HZ := Lib.hid hz
        clear hI HI2
        by_cases hf0 : f' = 0
        · have he0 : ¬ e' = 0 := fun h => hz ⟨hf0, h⟩
          subst hf0
          clear hz
          have q0 : ((e' : Int) == 0) = false := by simpa using he0
          go_wp2_with fail
          refine cP2.mono ?_
          rintro ee w3 ⟨rfl, hb3⟩
          have HB3 := Lib.hid (HB2.out.trans (hb3.mono HB2.out.size))
          have m3' := (hb3.cell (p := ⟨wr.heap.size, 3, none⟩) HZZ.out).trans m3
          clear cP2 hb3
          cases b' with
          | false =>
            have hI := HI3.out
            rw [Bool.false_and] at hI
            subst hI
            go_wp2_with fail
            go_ret
            exact ⟨rfl, HB1.out.trans (HB3.out.mono HB1.out.size)⟩
          | true =>
            have hI := HI3.out
            rw [Bool.true_and] at hI
            have HI4 := Lib.hid hI
            clear hI HI3
            go_wp2_with fail
            go_roundw
            case rel => exact ⟨i + 1, e', by go_num, rfl, by omega, HI4, HB3⟩
            case measure => simp [Go.RowKit.intOf]; omega
        · clear hz
          have q0 : ((f' : Int) == 0) = false := by simpa using hf0
          go_wp2_with fail
          refine cP2.mono ?_
          rintro ee w3 ⟨rfl, hb3⟩
          have HB3 := Lib.hid (HB2.out.trans (hb3.mono HB2.out.size))
          have m3' := (hb3.cell (p := ⟨wr.heap.size, 3, none⟩) HZZ.out).trans m3
          clear cP2 hb3
          cases b' with
          | false =>
            have hI := HI3.out
            rw [Bool.false_and] at hI
            subst hI
            go_wp2_with fail
            go_ret
            exact ⟨rfl, HB1.out.trans (HB3.out.mono HB1.out.size)⟩
          | true =>
            have hI := HI3.out
            rw [Bool.true_and] at hI
            have HI4 := Lib.hid hI
            clear hI HI3
            go_wp2_with fail
            go_roundw
            case rel => exact ⟨i + 1, e', by go_num, rfl, by omega, HI4, HB3⟩
            case measure => simp [Go.RowKit.intOf]; omega
    · obtain rfl : i = n := by omega
      have hI := HI.out
      rw [List.drop_eq_nil_of_le (by rw [HN.out]; exact Nat.le_refl _), withinL] at hI
      subst hI
      clear HI
      go_wp2_with fail
      go_ret
      exact ⟨rfl, HB1.out.trans (HB.out.mono HB1.out.size)⟩
end Go.Proofs.YtnjhmjkonmmomaaDoor.J
end
/- JLWithin: The law ParseWithin: of any declaration's part Kids stand within it, one behind the other, it within the text. -/
section
namespace Go.Proofs.YtnjhmjkonmmomaaDoor.J
open Go.RowKit
open Go.Lib hiding intOf
open Go.Proofs.YtnjhmjkonmmomaaDoor.U Go.Proofs.YtnjhmjkonmmomaaDoor.S Go.Proofs.YtnjhmjkonmmomaaDoor.T
open Go.Proofs.YtnjhmjkonmmomaaDoor.K (MTab DeclPost decl_any declP zeroP withinB)

theorem begs_of {k : By} (h : K.begs k) : bstr k = ⟨#[102, 117, 110, 99]⟩ ∨ bstr k = ⟨#[118, 97, 114]⟩ ∨ bstr k = ⟨#[116, 121, 112, 101]⟩ := by
  rcases h with rfl | rfl | rfl
  · exact .inl rfl
  · exact .inr (.inl rfl)
  · exact .inr (.inr rfl)
theorem ne1 : ((⟨#[118, 97, 114]⟩ : ByteArray).toList == (⟨#[102, 117, 110, 99]⟩ : ByteArray).toList) = false := by rw [ByteArray.toList_eq, ByteArray.toList_eq]; decide
theorem ne2 : ((⟨#[116, 121, 112, 101]⟩ : ByteArray).toList == (⟨#[102, 117, 110, 99]⟩ : ByteArray).toList) = false := by rw [ByteArray.toList_eq, ByteArray.toList_eq]; decide
theorem ne3 : ((⟨#[116, 121, 112, 101]⟩ : ByteArray).toList == (⟨#[118, 97, 114]⟩ : ByteArray).toList) = false := by rw [ByteArray.toList_eq, ByteArray.toList_eq]; decide
set_option maxHeartbeats 8000000 in
set_option maxRecDepth 20000 in
theorem within_law (s : ByteArray) (w : World) (hT : Tabs w) (hG : MTab w) : Calls Tryd.prog 4 #[.string s] w fun e w' => e = .returned (.bool true) ∧ Below w.heap.size w w' := by
  have HT := Lib.hid hT
  have HG := Lib.hid hG
  obtain ⟨z, hz⟩ : ∃ z, s.size = z := ⟨_, rfl⟩
  have HZ := Lib.hid hz
  by_cases hl : 500 < z
  · have cA := alive_any w hT hG
    have hz' := hz
    clear hT hG
    go_enter Tryd.func4, Tryd.ntmps4
    go_wp2_with fail
    refine cA.mono ?_
    rintro e w1 ⟨rfl, hb1⟩
    have HB := Lib.hid hb1
    clear cA hb1
    go_wp2_with fail
    go_ret
    exact ⟨rfl, HB.out⟩
  · have cD := decl_any s w (by omega) hT hG
    clear hT hG
    go_enter Tryd.func4, Tryd.ntmps4
    go_wp2_with fail
    refine cD.mono ?_
    rintro e w1 ⟨p, at', er, lv, hdp, rfl, hk1, hb1, hwt⟩
    have hlaw := K.within_decl (okB s) s.toList p at' er (by rw [tl_len]; exact hdp)
    rw [tl_len, HZ.out] at hlaw
    have HB1 := Lib.hid hb1
    have HLaw := Lib.hid hlaw
    clear cD hdp hlaw hb1
    by_cases he : er = 0
    · subst he
      obtain ⟨hwi, hde, hbe⟩ := HLaw.out.2 rfl
      obtain ⟨k, t, f, e, ks⟩ := p
      obtain ⟨a, c, rfl⟩ := kids_form hk1
      have cW := fun X (hX : Below w1.heap.size w1 X) => within_any (.mk k t f e ks) (.slice a ks.length c) _ X 0 z (kids_below hk1 hX) (by omega)
      have cDe := fun X (hX : Below w1.heap.size w1 X) => deep_any (.mk k t f e ks) (kids_below hk1 hX) (by omega)
      obtain ⟨dp, hdp⟩ : ∃ n, deep (.mk k t f e ks) = n := ⟨_, rfl⟩
      rw [hdp] at hde cDe
      rw [hwi] at cW
      simp only [arg, five] at cW cDe ⊢
      have hkb := begs_of (show K.begs k from hbe)
      obtain ⟨kb, hkb'⟩ : ∃ x, bstr k = x := ⟨_, rfl⟩
      obtain ⟨tb, htb⟩ : ∃ x, bstr t = x := ⟨_, rfl⟩
      obtain ⟨n, hn⟩ : ∃ n, ks.length = n := ⟨_, rfl⟩
      rw [hkb'] at hkb
      rw [hkb', htb, hn] at cW cDe ⊢
      have HCW := Lib.hid cW
      have HCD := Lib.hid cDe
      have HKB := Lib.hid hkb
      clear cW cDe hkb hwi hbe hk1 hwt hkb' htb hn hdp HLaw
      go_upto_region 4 with fail
      obtain ⟨w2, hw2, hq2, hb2, hz2⟩ := new_block w1 (.cells #[.string kb, .string tb, .int .i64 f, .int .i64 e, .slice a n c] 24)
      rw [hw2]
      have cW2 := HCW.out w2 hb2
      obtain ⟨⟨q0, q1, q2, q3, q4⟩, qf⟩ := cells_five hq2
      have HQ2 := Lib.hid hq2
      have HB2 := Lib.hid hb2
      have HZ2 := Lib.hid hz2
      clear hw2 hq2 hb2 hz2
      go_wp2_with fail
      refine cW2.mono ?_
      rintro e' w3 ⟨rfl, hb3⟩
      have HB3 := Lib.hid (HB2.out.trans (hb3.mono HB2.out.size))
      have HQ3 := Lib.hid ((hb3.block _ HZ2.out).trans HQ2.out)
      have HZ3 := Lib.hid (Nat.lt_of_lt_of_le HZ2.out hb3.size)
      have cA := alive_any w3 (HT.out.later (HB1.out.trans (HB3.out.mono HB1.out.size))) (HG.out.later (HB1.out.trans (HB3.out.mono HB1.out.size)))
      clear cW2 hb3 q0 q1 q2 q3 q4 qf
      go_wp2_with fail
      refine cA.mono ?_
      rintro e' w4 ⟨rfl, hb4⟩
      have HB4 := Lib.hid (HB3.out.trans (hb4.mono HB3.out.size))
      have hq4 := (hb4.block _ HZ3.out).trans HQ3.out
      have HQ4 := Lib.hid hq4
      have HZ4 := Lib.hid (Nat.lt_of_lt_of_le HZ3.out hb4.size)
      have cD4 := HCD.out w4 HB4.out
      obtain ⟨⟨q0, q1, q2, q3, q4⟩, qf⟩ := cells_five hq4
      clear cA hb4 hq4
      go_wp2_with fail
      refine cD4.mono ?_
      rintro e' w5 ⟨rfl, hb5⟩
      have HB5 := Lib.hid (HB1.out.trans ((HB4.out.trans (hb5.mono HB4.out.size)).mono HB1.out.size))
      have hq5 := (hb5.block _ HZ4.out).trans HQ4.out
      obtain ⟨⟨q0, q1, q2, q3, q4⟩, qf⟩ := cells_five hq5
      have n1 := ne1
      have n2 := ne2
      have n3 := ne3
      clear cD4 hb5 hq5
      rcases HKB.out with rfl | rfl | rfl
      · go_wp2_with fail
        go_ret
        exact ⟨rfl, HB5.out⟩
      · go_wp2_with fail
        go_ret
        exact ⟨rfl, HB5.out⟩
      · go_wp2_with fail
        go_ret
        exact ⟨rfl, HB5.out⟩
    · obtain ⟨rfl, h1, h2, h3⟩ := HLaw.out.1 he
      obtain ⟨a, c, rfl⟩ := kids_form (show KidsIn w1 _ (.mk _ _ _ _ _) lv from hk1)
      have harg : arg zeroP (.slice a (([] : List Pt).length) c) = .agg #[.string ⟨#[]⟩, .string ⟨#[]⟩, .int .i64 0, .int .i64 0, .slice a 0 c] := rfl
      rw [harg]
      clear harg hk1 hwt HLaw
      go_upto_region 4 with fail
      obtain ⟨w2, hw2, hq2, hb2, hz2⟩ := new_block w1 (.cells #[.string ⟨#[]⟩, .string ⟨#[]⟩, .int .i64 0, .int .i64 0, .slice a 0 c] 24)
      rw [hw2]
      have HB2 := Lib.hid (HB1.out.trans (hb2.mono HB1.out.size))
      have cA := alive_any w2 (HT.out.later HB2.out) (HG.out.later HB2.out)
      have HQ2 := Lib.hid hq2
      have HZ2 := Lib.hid hz2
      clear hw2 hq2 hb2 hz2
      have q1 : ((er : Int) != 0) = true := by simpa using he
      have q2 : ((er : Int) == 0) = false := by simpa using he
      go_wp2_with fail
      refine cA.mono ?_
      rintro e' w3 ⟨rfl, hb3⟩
      have HB3 := Lib.hid (HB2.out.trans (hb3.mono HB2.out.size))
      have hq3 := (hb3.block _ HZ2.out).trans HQ2.out
      obtain ⟨⟨k0, k1, k2, k3, k4⟩, kf⟩ := cells_five hq3
      clear cA hb3 hq3
      rcases h3 with rfl | rfl
      · go_wp2_with fail
        go_ret
        exact ⟨rfl, HB3.out⟩
      · go_wp2_with fail
        go_ret
        exact ⟨rfl, HB3.out⟩
end Go.Proofs.YtnjhmjkonmmomaaDoor.J
end
/- CWithin: The statement 'within' of layer 10 (bolthole/boltholelaw10.ParseWithin): for every input it answers true, and what it was given reads afterwards as it read before; its tied card. Conditions: none beyond the card's own (the tables of unicode/utf8, and the program's own table of marks, hold what their texts lay). -/
section
namespace Go.Proofs.YtnjhmjkonmmomaaDoor.cwithin
open Go.Proofs Go.Shelf Go.RowKit Go.ChangeShapes Go.WideShapes Go.ChangeAt
open Go.ChangeMaps (open_string shut_string)
open Go.Proofs.YtnjhmjkonmmomaaDoor.U Go.Proofs.YtnjhmjkonmmomaaDoor.S Go.Proofs.YtnjhmjkonmmomaaDoor.T Go.Proofs.YtnjhmjkonmmomaaDoor.J

theorem tabs {W : World} (hL : laidMet Tryd.prog Rows.parseWithinRow.laid W) : Tabs W := tabs_of hL (.tail _ (.tail _ (.head _))) (.head _)
theorem mtab {W : World} (hL : laidMet Tryd.prog Rows.parseWithinRow.laid W) : K.MTab W := mtab_of hL (.tail _ (.head _))
theorem own : ownKnob Tryd.prog.godebug = none := by kernel_rfl
theorem laidOut : laidOutB Tryd.prog = true := by kernel_rfl
set_option maxRecDepth 100000 in
set_option maxHeartbeats 2000000 in
theorem contract (H : Type) (enc : TypeId × Value → H) (W : World) (base : Nat) (args : Array Value) (ds gs : List (DataW H)) (before : List MemPlace)
    (hval0 : ∀ (j : Nat) t v, Tryd.f4.params[j]? = some t → args[j]? = some v → Value.okWide Tryd.prog W .any base t v)
    (hW : DataW.Whole enc Tryd.prog Tryd.f4.params.toList Rows.parseWithinSpec.vars false W args.toList ds gs before)
    (hsz0 : (DataW.weightsEach Tryd.prog (Tryd.f4.params.toList ++ Rows.parseWithinSpec.plain.varTypes Tryd.prog) (ds ++ gs)).all (· ≤ reachBytes) = true) (hL : laidMetH Tryd.prog Rows.parseWithinRow.laid W) :
    Calls Tryd.prog 4 args W fun e W' => ∃ v, e = .returned v ∧ Rows.parseWithinSpec.post enc Tryd.prog Tryd.f4 false true false false W args v W' := by
  have hsz := hsz0
  have hval : ∀ (j : Nat) t v, Tryd.f4.params[j]? = some t → args[j]? = some v → Value.okWide Tryd.prog W .any base t v := hval0
  have hW' := hW
  obtain ⟨p, q, hA0, hV, rfl, _, _⟩ := hW
  have hA : DataW.TrodAll enc Tryd.prog W 0 (fun _ => true) true Tryd.f4.params.toList args.toList ds p := hA0
  rw [Tryd.params4] at hA hval hsz
  obtain ⟨v0, d0, rfl, rfl, h0⟩ := trodAll_one hA
  obtain ⟨rfl, rfl⟩ := trodVars_none hV
  simp only [List.append_nil] at hW'
  obtain ⟨s0, rfl, rfl, rfl, ws0⟩ := open_string Tryd.underlying9 (hval 0 9 v0 rfl rfl) h0
  clear hA0 hval0 hsz0
  rw [MakeChecks.laidMetH_plain _ _ _ (by kernel_rfl)] at hL
  refine (within_law s0 W (tabs hL) (mtab hL)).mono fun e W' ⟨he, hb⟩ => ?_
  subst he
  exact ⟨_, rfl, _, _, _, [], _, [], hW', trodAll_mk1 (shut_bool Tryd.underlying4 _), trodAll_mk1 (shut_string Tryd.underlying9 ws0), rfl, hb.frame _, fun h => by cases h⟩

set_option maxRecDepth 100000 in
set_option maxHeartbeats 2000000 in
theorem lifted (os : Os) (started : os.Started) (H : Type) (enc : TypeId × Value → H) :
    ReturnsInHanded {} Tryd.checked os 4 .any (fun w args => (Rows.parseWithinSpec.pre enc Tryd.prog Tryd.f4 [] false w args ∧ laidMetH Tryd.prog Rows.parseWithinRow.laid w) ∧ sizedMet enc Tryd.prog Tryd.f4 (OpenSpec.ofChange Rows.parseWithinSpec) false w args)
      (Rows.parseWithinSpec.post enc Tryd.prog Tryd.f4 false true false false) := by
  refine returnsInHanded_of_change_and (C := Tryd.checked) (X := fun w _ => laidMetH Tryd.prog Rows.parseWithinRow.laid w) (fun _ _ _ hh h => h.of_heap hh) own started (by kernel_rfl) Tryd.func4
    (ChangeSpec.witness_shaped (enc := enc) (C := Tryd.checked) (os := os) (X := fun w _ => laidMetH Tryd.prog Rows.parseWithinRow.laid w) false (World.laidAll Tryd.prog os Rows.parseWithinRow.laid) #[.string ⟨#[]⟩] 8 (World.laidAll_os _ _ _)
      (World.shaped_of_ZipB (by kernel_rfl) (by kernel_rfl)) (by kernel_rfl) (by kernel_rfl) (by kernel_rfl)
      (by rw [MakeChecks.laidMetH_plain _ _ _ (by kernel_rfl)]; exact laidMet_laidAll _ (by kernel_rfl) (by kernel_rfl))) ?_
  intro W base args ds gs before hval hW _ hsz hL _
  exact contract H enc W base args ds gs before hval hW hsz hL

theorem holds : Rows.ParseWithinSaid :=
  OpenClaim.holds_of_wide 4 Tryd.f4 rfl rfl rfl rfl rfl rfl rfl ⟨rfl, rfl, rfl, rfl, rfl⟩ rfl rfl rfl rfl rfl (by kernel_rfl) Tryd.func4 (by kernel_rfl)
    (of_decide_eq_true (by kernel_rfl)) (by unfold Func.isWrapper; first | (rw [if_pos (by decide +kernel)]; kernel_rfl) | (rw [if_neg (by decide +kernel)]; exact ⟨rfl, rfl⟩))
    (fun os started H enc _ => lifted os started H enc)
theorem plain (f : FuncId) (fn : Func) (hf : Tryd.pinned.checked.prog.funcNamed "bolthole/boltholelaw10.ParseWithin" = some f) (hfn : Tryd.pinned.checked.prog.funcs[f]? = some fn) :
    true = Tryd.pinned.checked.prog.looks [] ∧ ∀ (j : Nat) t, fn.params[j]? = some t → Tryd.pinned.checked.prog.wantsStandIn t = false := by
  obtain rfl : f = 4 := Option.some.inj ((show Tryd.prog.funcNamed "bolthole/boltholelaw10.ParseWithin" = some 4 by kernel_rfl).symm.trans hf) |>.symm
  obtain rfl : fn = Tryd.f4 := (Option.some.inj (Tryd.func4.symm.trans hfn)).symm
  refine ⟨by kernel_rfl, fun j t ht => ?_⟩
  rw [Tryd.params4] at ht
  have hm : t ∈ [9] := by simpa using Array.mem_of_getElem? ht
  have hall : ([9].all fun u => !Tryd.prog.wantsStandIn u) = true := by kernel_rfl
  exact (show Tryd.prog.wantsStandIn t = false by simpa using List.all_eq_true.1 hall t hm)
theorem card_holds : Rows.ParseWithinCardSaid :=
  Claim7.holds_tied_plain_at .later [] _ _ _ _ holds (fun _ h => by cases h) (by kernel_rfl) (fun _ h => by cases h) parseWithin_row_tie rfl ⟨rfl, rfl⟩ (by kernel_rfl) rfl plain (by kernel_rfl)
end Go.Proofs.YtnjhmjkonmmomaaDoor.cwithin
end

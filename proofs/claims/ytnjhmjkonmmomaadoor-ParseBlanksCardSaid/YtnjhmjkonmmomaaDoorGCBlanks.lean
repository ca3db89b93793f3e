/- The texts JWithin, JLWithin, JLDeep, JClone, JShift, JLBlanks, CBlanks, joined. -/
import Derived.Test.YtnjhmjkonmmomaaDoorG13
import Derived.Test.YtnjhmjkonmmomaaDoorG11
import Derived.Test.YtnjhmjkonmmomaaDoorG16
import Derived.Test.YtnjhmjkonmmomaaDoorG10
import Derived.Test.YtnjhmjkonmmomaaDoorG14
import Derived.Lib.SliceRun
import Derived.Test.YtnjhmjkonmmomaaDoorG2
import Derived.Test.YtnjhmjkonmmomaaDoorCards
import Derived.Test.YtnjhmjkonmmomaaDoorTie
import Derived.WalkKit
import Derived.ProofKit
import Derived.OpenShut
import Derived.Lay
import Derived.LaidOnce
import Derived.SevenTiedAt
import Derived.Deep.DeepHandedRow
import Derived.PinnedBridge
/- JWithin: Do Kids stand within their part: the contract of the law's within. -/
section
namespace Go.Proofs.YtnjhmjkonmmomaaDoor.J
open Go.RowKit
open Go.Lib hiding intOf
open Go.Proofs.YtnjhmjkonmmomaaDoor.U Go.Proofs.YtnjhmjkonmmomaaDoor.S Go.Proofs.YtnjhmjkonmmomaaDoor.T
open Go.Proofs.YtnjhmjkonmmomaaDoor.K (withinB withinL fromP endP)

def WithinC (p : Pt) : Prop := ∀ (lv : Value) (R : Nat → Prop) (w : World) (u v : Int), KidsIn w R p lv → wtP p ≤ 1099511627776 →
  Calls Tryd.prog 17 #[arg p lv, .int .i64 u, .int .i64 v] w fun e w' => e = .returned (.bool (withinB p u v)) ∧ Below w.heap.size w w'
theorem withinL_drop {l : List Pt} {i : Nat} (h : i < l.length) (u v : Int) : withinL (l.drop i) u v = if fromP l[i] = 0 ∧ endP l[i] = 0 then withinL (l.drop (i + 1)) u v else withinB l[i] u v && withinL (l.drop (i + 1)) (endP l[i]) v := by
  rw [List.drop_eq_getElem_cons h, withinL]
set_option maxHeartbeats 4000000 in
theorem within_any : ∀ p, WithinC p := Pt.ind fun k t f e ks IH lv R w u v hv hw => by
  obtain ⟨a, c, rfl⟩ := kids_form hv
  obtain ⟨_, hcap, hrow⟩ := kids_row hv
  have HR := Lib.hid hrow
  have HIH := Lib.hid IH
  rw [wtP] at hw
  have hlb : ks.length ≤ 1099511627776 := Nat.le_trans (wtL_length ks) (by omega)
  have HWM := Lib.hid (fun v (h : v ∈ ks) => Nat.le_trans (wtL_mem h) (show wtL ks ≤ 1099511627776 by omega))
  obtain ⟨n, hn⟩ : ∃ n, ks.length = n := ⟨_, rfl⟩
  have HN := Lib.hid hn
  simp only [arg, five]
  rw [hn]
  rw [hn] at hlb
  obtain ⟨kb, hkb⟩ : ∃ x, bstr k = x := ⟨_, rfl⟩
  obtain ⟨tb, htb⟩ : ∃ x, bstr t = x := ⟨_, rfl⟩
  rw [hkb, htb]
  obtain ⟨b, hb⟩ : ∃ b, withinB (.mk k t f e ks) u v = b := ⟨_, rfl⟩
  rw [hb]
  unfold withinB at hb
  clear hv hrow IH hw hn hcap hkb htb
  by_cases h1 : f < u
  · rw [if_pos (.inl h1)] at hb
    subst hb
    go_enter Tryd.func17, Tryd.ntmps17
    go_wp2_with fail
    go_ret
    exact ⟨rfl, (Below.refl _ _).alloc (Nat.le_refl _) _⟩
  by_cases h2 : v < e
  · rw [if_pos (.inr (.inl h2))] at hb
    subst hb
    go_enter Tryd.func17, Tryd.ntmps17
    go_wp2_with fail
    go_ret
    exact ⟨rfl, (Below.refl _ _).alloc (Nat.le_refl _) _⟩
  by_cases h3 : e < f
  · rw [if_pos (.inr (.inr h3))] at hb
    subst hb
    go_enter Tryd.func17, Tryd.ntmps17
    go_wp2_with fail
    go_ret
    exact ⟨rfl, (Below.refl _ _).alloc (Nat.le_refl _) _⟩
  rw [if_neg (by omega)] at hb
  have HF := Lib.hid (show withinL (ks.drop 0) f e = b from hb)
  clear hb
  go_enter Tryd.func17, Tryd.ntmps17
  go_wp2_with fail
  obtain ⟨w1, hw1, hq1, hb1, hz1⟩ := new_block w (.cells #[.string kb, .string tb, .int .i64 f, .int .i64 e, .slice a n c] 24)
  rw [hw1]
  have HQ1 := Lib.hid hq1
  have HB1 := Lib.hid hb1
  clear hq1 hb1 hw1
  go_loopw [7, 8] (fun av iv wr => ∃ (i : Nat) (at' : Int), iv = .int .i64 i ∧ av = .int .i64 at' ∧ i ≤ n ∧ Hid (withinL (ks.drop i) at' e = b) ∧ Hid (Below w1.heap.size w1 wr)) (fun _ iv _ => n - (Go.RowKit.intOf iv).toNat)
  case atStart => exact ⟨0, f, rfl, rfl, Nat.zero_le _, HF, Lib.hid (Below.refl _ _)⟩
  case round =>
    obtain ⟨i, at', rfl, rfl, hi, HI, HB⟩ := hrel
    have hq := (HB.out.block w.heap.size hz1).trans HQ1.out
    obtain ⟨⟨k0, k1, k2, k3, k4⟩, kf⟩ := cells_five hq
    have hz2 := HB.out.size
    clear hq
    by_cases hlt : i < n
    · have hll : i < ks.length := by rw [HN.out]; exact hlt
      have hI := HI.out
      rw [withinL_drop hll] at hI
      obtain ⟨g, off, xs, rfl, hg, hc, hp⟩ := HR.out.resolve_left (fun h => by rw [h] at hll; exact Nat.not_lt_zero _ hll)
      have hb0 : Below w.heap.size w wr := HB1.out.trans (HB.out.mono HB1.out.size)
      obtain ⟨k', t', f', e', ks', a', c', hK⟩ := kid_at hp hc i hll
      have hK := hK.below hb0
      have hfe : fromP ks[i] = f' ∧ endP ks[i] = e' := by rw [hK.eq]; exact ⟨rfl, rfl⟩
      rw [hfe.1, hfe.2] at hI
      have cP := fun X (hX : Below wr.heap.size wr X) => (HIH.out ks[i] (List.getElem_mem hll)) (.slice a' ks'.length c') R X at' e (by rw [hK.eq]; exact kids_below hK.kids hX) (HWM.out _ (List.getElem_mem hll))
      obtain ⟨b', hb'⟩ : ∃ b', withinB ks[i] at' e = b' := ⟨_, rfl⟩
      rw [hb'] at hI cP
      simp only [hK.eq, arg, five] at cP
      have HI2 := Lib.hid hI
      have j0 := hK.k0
      have j1 := hK.k1
      have j2 := hK.k2
      have j3 := hK.k3
      have j4 := hK.k4
      obtain ⟨kb', hkb'⟩ : ∃ x, bstr k' = x := ⟨_, rfl⟩
      obtain ⟨tb', htb'⟩ : ∃ x, bstr t' = x := ⟨_, rfl⟩
      rw [hkb'] at j0 cP
      rw [htb'] at j1 cP
      obtain ⟨n', hn'⟩ : ∃ x, ks'.length = x := ⟨_, rfl⟩
      rw [hn'] at j4 cP
      clear hI hb' hc hp hK hb0 HI hfe hkb' htb' hn'
      go_upto_region 8 with fail
      obtain ⟨w2, hw2, hq2, hb2, hzz⟩ := new_block wr (.cells #[.string kb', .string tb', .int .i64 f', .int .i64 e', .slice a' n' c'] 24)
      rw [hw2]
      obtain ⟨⟨m0, m1, m2, m3, m4⟩, mf⟩ := cells_five hq2
      have kw : ∀ {j v}, wr.cell? ⟨w.heap.size, j, none⟩ = some v → w2.cell? ⟨w.heap.size, j, none⟩ = some v := fun h => (hb2.cell (by show w.heap.size < wr.heap.size; omega)).trans h
      have x2 := kw k2
      have x3 := kw k3
      have cP2 := cP w2 hb2
      have HQ2 := Lib.hid hq2
      have HBw := Lib.hid hb2
      have HZZ := Lib.hid hzz
      have HB2 := Lib.hid (HB.out.trans (hb2.mono hz2))
      clear hw2 hq2 hb2 cP k0 k1 k2 k3 k4 kf j0 j1 j2 j3 j4 kw hzz
      by_cases hz : f' = 0 ∧ e' = 0
      · obtain ⟨rfl, rfl⟩ := hz
        have hI := HI2.out
        rw [if_pos ⟨rfl, rfl⟩] at hI
        have HI3 := Lib.hid hI
        clear hI HI2
        go_wp2_with fail
        go_roundw
        case rel => exact ⟨i + 1, at', by go_num, rfl, by omega, HI3, HB2⟩
        case measure => simp [Go.RowKit.intOf]; omega
      · have hI := HI2.out
        rw [if_neg hz] at hI
        have HI3 := Lib.hid hI
        have HZ := Lib.hid hz
        clear hI HI2
        by_cases hf0 : f' = 0
        · have he0 : ¬ e' = 0 := fun h => hz ⟨hf0, h⟩
          subst hf0
          clear hz
          have q0 : ((e' : Int) == 0) = false := by simpa using he0
          go_wp2_with fail
          refine cP2.mono ?_
          rintro ee w3 ⟨rfl, hb3⟩
          have HB3 := Lib.hid (HB2.out.trans (hb3.mono HB2.out.size))
          have m3' := (hb3.cell (p := ⟨wr.heap.size, 3, none⟩) HZZ.out).trans m3
          clear cP2 hb3
          cases b' with
          | false =>
            have hI := HI3.out
            rw [Bool.false_and] at hI
            subst hI
            go_wp2_with fail
            go_ret
            exact ⟨rfl, HB1.out.trans (HB3.out.mono HB1.out.size)⟩
          | true =>
            have hI := HI3.out
            rw [Bool.true_and] at hI
            have HI4 := Lib.hid hI
            clear hI HI3
            go_wp2_with fail
            go_roundw
            case rel => exact ⟨i + 1, e', by go_num, rfl, by omega, HI4, HB3⟩
            case measure => simp [Go.RowKit.intOf]; omega
        · clear hz
          have q0 : ((f' : Int) == 0) = false := by simpa using hf0
          go_wp2_with fail
          refine cP2.mono ?_
          rintro ee w3 ⟨rfl, hb3⟩
          have HB3 := Lib.hid (HB2.out.trans (hb3.mono HB2.out.size))
          have m3' := (hb3.cell (p := ⟨wr.heap.size, 3, none⟩) HZZ.out).trans m3
          clear cP2 hb3
          cases b' with
          | false =>
            have hI := HI3.out
            rw [Bool.false_and] at hI
            subst hI
            go_wp2_with fail
            go_ret
            exact ⟨rfl, HB1.out.trans (HB3.out.mono HB1.out.size)⟩
          | true =>
            have hI := HI3.out
            rw [Bool.true_and] at hI
            have HI4 := Lib.hid hI
            clear hI HI3
            go_wp2_with fail
            go_roundw
            case rel => exact ⟨i + 1, e', by go_num, rfl, by omega, HI4, HB3⟩
            case measure => simp [Go.RowKit.intOf]; omega
    · obtain rfl : i = n := by omega
      have hI := HI.out
      rw [List.drop_eq_nil_of_le (by rw [HN.out]; exact Nat.le_refl _), withinL] at hI
      subst hI
      clear HI
      go_wp2_with fail
      go_ret
      exact ⟨rfl, HB1.out.trans (HB.out.mono HB1.out.size)⟩
end Go.Proofs.YtnjhmjkonmmomaaDoor.J
end
/- JLWithin: The law ParseWithin: of any declaration's part Kids stand within it, one behind the other, it within the text. -/
section
namespace Go.Proofs.YtnjhmjkonmmomaaDoor.J
open Go.RowKit
open Go.Lib hiding intOf
open Go.Proofs.YtnjhmjkonmmomaaDoor.U Go.Proofs.YtnjhmjkonmmomaaDoor.S Go.Proofs.YtnjhmjkonmmomaaDoor.T
open Go.Proofs.YtnjhmjkonmmomaaDoor.K (MTab DeclPost decl_any declP zeroP withinB)

theorem begs_of {k : By} (h : K.begs k) : bstr k = ⟨#[102, 117, 110, 99]⟩ ∨ bstr k = ⟨#[118, 97, 114]⟩ ∨ bstr k = ⟨#[116, 121, 112, 101]⟩ := by
  rcases h with rfl | rfl | rfl
  · exact .inl rfl
  · exact .inr (.inl rfl)
  · exact .inr (.inr rfl)
theorem ne1 : ((⟨#[118, 97, 114]⟩ : ByteArray).toList == (⟨#[102, 117, 110, 99]⟩ : ByteArray).toList) = false := by rw [ByteArray.toList_eq, ByteArray.toList_eq]; decide
theorem ne2 : ((⟨#[116, 121, 112, 101]⟩ : ByteArray).toList == (⟨#[102, 117, 110, 99]⟩ : ByteArray).toList) = false := by rw [ByteArray.toList_eq, ByteArray.toList_eq]; decide
theorem ne3 : ((⟨#[116, 121, 112, 101]⟩ : ByteArray).toList == (⟨#[118, 97, 114]⟩ : ByteArray).toList) = false := by rw [ByteArray.toList_eq, ByteArray.toList_eq]; decide
set_option maxHeartbeats 8000000 in
set_option maxRecDepth 20000 in
theorem within_law (s : ByteArray) (w : World) (hT : Tabs w) (hG : MTab w) : Calls Tryd.prog 4 #[.string s] w fun e w' => e = .returned (.bool true) ∧ Below w.heap.size w w' := by
  have HT := Lib.hid hT
  have HG := Lib.hid hG
  obtain ⟨z, hz⟩ : ∃ z, s.size = z := ⟨_, rfl⟩
  have HZ := Lib.hid hz
  by_cases hl : 500 < z
  · have cA := alive_any w hT hG
    have hz' := hz
    clear hT hG
    go_enter Tryd.func4, Tryd.ntmps4
    go_wp2_with fail
    refine cA.mono ?_
    rintro e w1 ⟨rfl, hb1⟩
    have HB := Lib.hid hb1
    clear cA hb1
    go_wp2_with fail
    go_ret
    exact ⟨rfl, HB.out⟩
  · have cD := decl_any s w (by omega) hT hG
    clear hT hG
    go_enter Tryd.func4, Tryd.ntmps4
    go_wp2_with fail
    refine cD.mono ?_
    rintro e w1 ⟨p, at', er, lv, hdp, rfl, hk1, hb1, hwt⟩
    have hlaw := K.within_decl (okB s) s.toList p at' er (by rw [tl_len]; exact hdp)
    rw [tl_len, HZ.out] at hlaw
    have HB1 := Lib.hid hb1
    have HLaw := Lib.hid hlaw
    clear cD hdp hlaw hb1
    by_cases he : er = 0
    · subst he
      obtain ⟨hwi, hde, hbe⟩ := HLaw.out.2 rfl
      obtain ⟨k, t, f, e, ks⟩ := p
      obtain ⟨a, c, rfl⟩ := kids_form hk1
      have cW := fun X (hX : Below w1.heap.size w1 X) => within_any (.mk k t f e ks) (.slice a ks.length c) _ X 0 z (kids_below hk1 hX) (by omega)
      have cDe := fun X (hX : Below w1.heap.size w1 X) => deep_any (.mk k t f e ks) (kids_below hk1 hX) (by omega)
      obtain ⟨dp, hdp⟩ : ∃ n, deep (.mk k t f e ks) = n := ⟨_, rfl⟩
      rw [hdp] at hde cDe
      rw [hwi] at cW
      simp only [arg, five] at cW cDe ⊢
      have hkb := begs_of (show K.begs k from hbe)
      obtain ⟨kb, hkb'⟩ : ∃ x, bstr k = x := ⟨_, rfl⟩
      obtain ⟨tb, htb⟩ : ∃ x, bstr t = x := ⟨_, rfl⟩
      obtain ⟨n, hn⟩ : ∃ n, ks.length = n := ⟨_, rfl⟩
      rw [hkb'] at hkb
      rw [hkb', htb, hn] at cW cDe ⊢
      have HCW := Lib.hid cW
      have HCD := Lib.hid cDe
      have HKB := Lib.hid hkb
      clear cW cDe hkb hwi hbe hk1 hwt hkb' htb hn hdp HLaw
      go_upto_region 4 with fail
      obtain ⟨w2, hw2, hq2, hb2, hz2⟩ := new_block w1 (.cells #[.string kb, .string tb, .int .i64 f, .int .i64 e, .slice a n c] 24)
      rw [hw2]
      have cW2 := HCW.out w2 hb2
      obtain ⟨⟨q0, q1, q2, q3, q4⟩, qf⟩ := cells_five hq2
      have HQ2 := Lib.hid hq2
      have HB2 := Lib.hid hb2
      have HZ2 := Lib.hid hz2
      clear hw2 hq2 hb2 hz2
      go_wp2_with fail
      refine cW2.mono ?_
      rintro e' w3 ⟨rfl, hb3⟩
      have HB3 := Lib.hid (HB2.out.trans (hb3.mono HB2.out.size))
      have HQ3 := Lib.hid ((hb3.block _ HZ2.out).trans HQ2.out)
      have HZ3 := Lib.hid (Nat.lt_of_lt_of_le HZ2.out hb3.size)
      have cA := alive_any w3 (HT.out.later (HB1.out.trans (HB3.out.mono HB1.out.size))) (HG.out.later (HB1.out.trans (HB3.out.mono HB1.out.size)))
      clear cW2 hb3 q0 q1 q2 q3 q4 qf
      go_wp2_with fail
      refine cA.mono ?_
      rintro e' w4 ⟨rfl, hb4⟩
      have HB4 := Lib.hid (HB3.out.trans (hb4.mono HB3.out.size))
      have hq4 := (hb4.block _ HZ3.out).trans HQ3.out
      have HQ4 := Lib.hid hq4
      have HZ4 := Lib.hid (Nat.lt_of_lt_of_le HZ3.out hb4.size)
      have cD4 := HCD.out w4 HB4.out
      obtain ⟨⟨q0, q1, q2, q3, q4⟩, qf⟩ := cells_five hq4
      clear cA hb4 hq4
      go_wp2_with fail
      refine cD4.mono ?_
      rintro e' w5 ⟨rfl, hb5⟩
      have HB5 := Lib.hid (HB1.out.trans ((HB4.out.trans (hb5.mono HB4.out.size)).mono HB1.out.size))
      have hq5 := (hb5.block _ HZ4.out).trans HQ4.out
      obtain ⟨⟨q0, q1, q2, q3, q4⟩, qf⟩ := cells_five hq5
      have n1 := ne1
      have n2 := ne2
      have n3 := ne3
      clear cD4 hb5 hq5
      rcases HKB.out with rfl | rfl | rfl
      · go_wp2_with fail
        go_ret
        exact ⟨rfl, HB5.out⟩
      · go_wp2_with fail
        go_ret
        exact ⟨rfl, HB5.out⟩
      · go_wp2_with fail
        go_ret
        exact ⟨rfl, HB5.out⟩
    · obtain ⟨rfl, h1, h2, h3⟩ := HLaw.out.1 he
      obtain ⟨a, c, rfl⟩ := kids_form (show KidsIn w1 _ (.mk _ _ _ _ _) lv from hk1)
      have harg : arg zeroP (.slice a (([] : List Pt).length) c) = .agg #[.string ⟨#[]⟩, .string ⟨#[]⟩, .int .i64 0, .int .i64 0, .slice a 0 c] := rfl
      rw [harg]
      clear harg hk1 hwt HLaw
      go_upto_region 4 with fail
      obtain ⟨w2, hw2, hq2, hb2, hz2⟩ := new_block w1 (.cells #[.string ⟨#[]⟩, .string ⟨#[]⟩, .int .i64 0, .int .i64 0, .slice a 0 c] 24)
      rw [hw2]
      have HB2 := Lib.hid (HB1.out.trans (hb2.mono HB1.out.size))
      have cA := alive_any w2 (HT.out.later HB2.out) (HG.out.later HB2.out)
      have HQ2 := Lib.hid hq2
      have HZ2 := Lib.hid hz2
      clear hw2 hq2 hb2 hz2
      have q1 : ((er : Int) != 0) = true := by simpa using he
      have q2 : ((er : Int) == 0) = false := by simpa using he
      go_wp2_with fail
      refine cA.mono ?_
      rintro e' w3 ⟨rfl, hb3⟩
      have HB3 := Lib.hid (HB2.out.trans (hb3.mono HB2.out.size))
      have hq3 := (hb3.block _ HZ2.out).trans HQ2.out
      obtain ⟨⟨k0, k1, k2, k3, k4⟩, kf⟩ := cells_five hq3
      clear cA hb3 hq3
      rcases h3 with rfl | rfl
      · go_wp2_with fail
        go_ret
        exact ⟨rfl, HB3.out⟩
      · go_wp2_with fail
        go_ret
        exact ⟨rfl, HB3.out⟩
end Go.Proofs.YtnjhmjkonmmomaaDoor.J
end
/- JLDeep: The law ParseDeep: a type of so many stars, and blocks within blocks, are parts, as deep as they are, up to forty; deeper ones are ErrDeep. -/
section
namespace Go.Proofs.YtnjhmjkonmmomaaDoor.J
open Go.RowKit
open Go.Lib hiding intOf
open Go.Proofs.YtnjhmjkonmmomaaDoor.U Go.Proofs.YtnjhmjkonmmomaaDoor.S Go.Proofs.YtnjhmjkonmmomaaDoor.T
open Go.Proofs.YtnjhmjkonmmomaaDoor.K (MTab DeclPost decl_any declP zeroP)

theorem and_63 (z : Int) : ∃ q : Nat, bits BinOp.and .i64 z 63 = (q : Int) ∧ q ≤ 63 := by
  refine ⟨(BitVec.ofInt 64 z &&& BitVec.ofInt 64 63).toNat, ?_, ?_⟩
  · have h : (BitVec.ofInt 64 z &&& BitVec.ofInt 64 63).toNat ≤ 63 := by
      rw [BitVec.toNat_and]
      exact Nat.le_trans Nat.and_le_right (by decide)
    show IntKind.i64.wrap (((BitVec.ofInt 64 z &&& BitVec.ofInt 64 63).toNat : Nat) : Int) = _
    exact IntWalk.i64_in _ (by omega)
  · rw [BitVec.toNat_and]
    exact Nat.le_trans Nat.and_le_right (by decide)
/-- So many bytes. -/
def repB (c : UInt8) (k : Nat) : ByteArray := ⟨(List.replicate k c).toArray⟩
theorem repB_zero (c : UInt8) : repB c 0 = ⟨#[]⟩ := rfl
theorem repB_succ (c : UInt8) (k : Nat) : repB c k ++ ⟨#[c]⟩ = repB c (k + 1) := by
  unfold repB
  rw [List.replicate_succ', ← Q.mk_app]
theorem repB_size (c : UInt8) (k : Nat) : (repB c k).size = k := by show (List.replicate k c).length = k; simp
def starB (k : Nat) : ByteArray := (⟨#[118, 97, 114, 32, 120, 32]⟩ ++ repB 42 k) ++ ⟨#[105, 110, 116]⟩
def blockB (k : Nat) : ByteArray := ((⟨#[102, 117, 110, 99, 32, 102, 40, 41, 32, 123]⟩ ++ repB 123 k) ++ repB 125 k) ++ ⟨#[125]⟩
theorem starB_is (k : Nat) : starB k = ⟨(varX ++ (List.replicate k 42 ++ intB)).toArray⟩ := by
  unfold starB repB varX intB
  rw [← List.append_assoc, Q.mk_app, Q.mk_app]
theorem blockB_is (k : Nat) : blockB k = ⟨(funcX ++ (List.replicate k 123 ++ (List.replicate k 125 ++ [125]))).toArray⟩ := by
  unfold blockB repB funcX
  rw [← List.append_assoc, ← List.append_assoc, Q.mk_app, Q.mk_app, Q.mk_app]
theorem told_of {l : By} {s : ByteArray} (h : s = ⟨l.toArray⟩) : declP (scanB (okB s) s.toList) s.size = declP (scanB (okB ⟨l.toArray⟩) l) l.length := by
  subst h
  have e : (⟨l.toArray⟩ : ByteArray).toList = l := by rw [ByteArray.toList_eq]
  have z : (⟨l.toArray⟩ : ByteArray).size = l.length := by simp [ByteArray.size]
  rw [e, z]
theorem stars_k (k : Nat) (hk : k ≤ 63) : ∃ p at' er, declP (scanB (okB (starB k)) (starB k).toList) (starB k).size = (p, at', er) ∧ (38 < k → er = 22) ∧ (k ≤ 38 → er = 0 ∧ deep p = k + 2) := by
  have h := List.all_eq_true.1 stars_all k (List.mem_range.2 (by omega))
  rw [told_of (starB_is k)]
  unfold starsOk at h
  dsimp only at h
  obtain ⟨d, hd⟩ : ∃ d, declP (scanB (okB ⟨(varX ++ (List.replicate k 42 ++ intB)).toArray⟩) (varX ++ (List.replicate k 42 ++ intB))) (varX ++ (List.replicate k 42 ++ intB)).length = d := ⟨_, rfl⟩
  rw [hd] at h ⊢
  refine ⟨d.1, d.2.1, d.2.2, rfl, fun h1 => ?_, fun h1 => ?_⟩
  · rw [if_pos h1] at h; simpa using h
  · rw [if_neg (by omega)] at h; simpa using h
theorem blocks_k (k : Nat) (hk : k ≤ 63) : ∃ p at' er, declP (scanB (okB (blockB k)) (blockB k).toList) (blockB k).size = (p, at', er) ∧ (38 < k → er = 22) ∧ (k ≤ 38 → er = 0 ∧ deep p = k + 2) := by
  have h := List.all_eq_true.1 blocks_all k (List.mem_range.2 (by omega))
  rw [told_of (blockB_is k)]
  unfold blocksOk at h
  dsimp only at h
  obtain ⟨d, hd⟩ : ∃ d, declP (scanB (okB ⟨(funcX ++ (List.replicate k 123 ++ (List.replicate k 125 ++ [125]))).toArray⟩) (funcX ++ (List.replicate k 123 ++ (List.replicate k 125 ++ [125])))) (funcX ++ (List.replicate k 123 ++ (List.replicate k 125 ++ [125]))).length = d := ⟨_, rfl⟩
  rw [hd] at h ⊢
  refine ⟨d.1, d.2.1, d.2.2, rfl, fun h1 => ?_, fun h1 => ?_⟩
  · rw [if_pos h1] at h; simpa using h
  · rw [if_neg (by omega)] at h; simpa using h
theorem starB_size (k : Nat) : (starB k).size = k + 9 := by
  have h1 : (⟨#[118, 97, 114, 32, 120, 32]⟩ : ByteArray).size = 6 := rfl
  have h2 : (⟨#[105, 110, 116]⟩ : ByteArray).size = 3 := rfl
  unfold starB; simp only [ByteArray.size_append, repB_size, h1, h2]; omega
theorem blockB_size (k : Nat) : (blockB k).size = k + k + 11 := by
  have h1 : (⟨#[102, 117, 110, 99, 32, 102, 40, 41, 32, 123]⟩ : ByteArray).size = 10 := rfl
  have h2 : (⟨#[125]⟩ : ByteArray).size = 1 := rfl
  unfold blockB; simp only [ByteArray.size_append, repB_size, h1, h2]; omega
/-- What is read of a text, as it is needed here. -/
theorem decl_five (s : ByteArray) {p : Pt} {at' er : Int} (h : declP (scanB (okB s) s.toList) s.size = (p, at', er)) (w : World) (hs : s.size ≤ 600) (hT : Tabs w) (hG : MTab w) :
    Calls Tryd.prog 16 #[.string s] w fun e w' => ∃ kb tb f e0 a n c, e = .returned (.tuple #[.agg #[.string kb, .string tb, .int .i64 f, .int .i64 e0, .slice a n c], .int .i64 at', .int .i64 er]) ∧ Below w.heap.size w w' ∧
      ∀ X, Below w'.heap.size w' X → Calls Tryd.prog 14 #[.agg #[.string kb, .string tb, .int .i64 f, .int .i64 e0, .slice a n c]] X fun e X' => e = .returned (.int .i64 (deep p)) ∧ Below X.heap.size X X' := by
  refine (decl_any s w hs hT hG).mono ?_
  rintro e w' ⟨q, x, y, lv, h1, rfl, h3, h4, h5⟩
  rw [h] at h1
  cases h1
  obtain ⟨k, t, f, e0, ks⟩ := p
  obtain ⟨a, c, rfl⟩ := kids_form h3
  exact ⟨bstr k, bstr t, f, e0, a, ks.length, c, rfl, h4, fun X hX => deep_any _ (kids_below h3 hX) (by omega)⟩
set_option maxHeartbeats 8000000 in
set_option maxRecDepth 20000 in
theorem deep_law (z : Int) (w : World) (hT : Tabs w) (hG : MTab w) : Calls Tryd.prog 6 #[.int .i64 z] w fun e w' => e = .returned (.bool true) ∧ Below w.heap.size w w' := by
  have HT := Lib.hid hT
  have HG := Lib.hid hG
  obtain ⟨k, hk, hk63⟩ := and_63 z
  clear hT hG
  go_enter Tryd.func6, Tryd.ntmps6
  go_upto_region 2 with fail
  clear hk
  go_wp2_with fail
  go_loopw [4, 5, 6, 7] (fun sv ov ev iv wr => ∃ i : Nat, iv = .int .i64 i ∧ sv = .string (repB 42 i) ∧ ov = .string (repB 123 i) ∧ ev = .string (repB 125 i) ∧ i ≤ k ∧ wr = w) (fun _ _ _ iv _ => k - (Go.RowKit.intOf iv).toNat)
  case atStart => exact ⟨0, rfl, rfl, rfl, rfl, Nat.zero_le _, rfl⟩
  case round =>
    obtain ⟨i, rfl, rfl, rfl, rfl, hi, hwr⟩ := hrel
    have hwr' := hwr.symm
    subst hwr'
    clear hwr
    by_cases hlt : i < k
    · have z1 := repB_size 42 i
      have z2 := repB_size 123 i
      have z3 := repB_size 125 i
      have e1 := repB_succ 42 i
      have e2 := repB_succ 123 i
      have e3 := repB_succ 125 i
      go_wp2_with fail
      go_roundw
      case rel => exact ⟨i + 1, by go_num, by first | rfl | rw [e1], by first | rfl | rw [e2], by first | rfl | rw [e3], by omega, by first | rfl | trivial⟩
      case measure => simp [Go.RowKit.intOf]; omega
    · obtain rfl : i = k := by omega
      obtain ⟨p1, at1, er1, h1, h1a, h1b⟩ := stars_k i hk63
      obtain ⟨p2, at2, er2, h2, h2a, h2b⟩ := blocks_k i hk63
      have c1 := decl_five (starB i) h1 w (by rw [starB_size]; omega) HT.out HG.out
      have H1a := Lib.hid h1a
      have H1b := Lib.hid h1b
      have H2 := Lib.hid h2
      have H2a := Lib.hid h2a
      have H2b := Lib.hid h2b
      have z1 := repB_size 42 i
      have z2 := repB_size 123 i
      have z3 := repB_size 125 i
      have zs := starB_size i
      have zb := blockB_size i
      clear h1 h1a h1b h2 h2a h2b
      unfold starB at c1
      go_wp2_with fail
      refine c1.mono ?_
      rintro e w1 ⟨kb, tb, f, e0, a, n, c, rfl, hb1, hd1⟩
      have HB1 := Lib.hid hb1
      have HD1 := Lib.hid hd1
      clear c1 hb1 hd1
      go_upto_region 12 with fail
      obtain ⟨w2, hw2, hq2, hb2, hz2⟩ := new_block w1 (.cells #[.string kb, .string tb, .int .i64 f, .int .i64 e0, .slice a n c] 24)
      rw [hw2]
      have HQ2 := Lib.hid hq2
      have HB2 := Lib.hid hb2
      have HZ2 := Lib.hid hz2
      have hw := HB1.out.trans (hb2.mono HB1.out.size)
      have c2 := decl_five (blockB i) H2.out w2 (by rw [blockB_size]; omega) (HT.out.later hw) (HG.out.later hw)
      unfold blockB at c2
      clear hw2 hq2 hb2 hz2 hw
      go_wp2_with fail
      refine c2.mono ?_
      rintro e w3 ⟨kb', tb', f', e0', a', n', c', rfl, hb3, hd3⟩
      have HB3 := Lib.hid (HB2.out.trans (hb3.mono HB2.out.size))
      have HQ3 := Lib.hid ((hb3.block _ HZ2.out).trans HQ2.out)
      have HZ3 := Lib.hid (Nat.lt_of_lt_of_le HZ2.out hb3.size)
      have HD3 := Lib.hid hd3
      clear c2 hb3 hd3
      go_upto_region 13 with fail
      obtain ⟨w4, hw4, hq4, hb4, hz4⟩ := new_block w3 (.cells #[.string kb', .string tb', .int .i64 f', .int .i64 e0', .slice a' n' c'] 24)
      rw [hw4]
      have HB4 := Lib.hid (HB3.out.trans (hb4.mono HB3.out.size))
      have HQ4 := Lib.hid ((hb4.block _ HZ3.out).trans HQ3.out)
      have HZ4 := Lib.hid (Nat.lt_of_lt_of_le HZ3.out hb4.size)
      have HR4 := Lib.hid hq4
      have HB34 := Lib.hid hb4
      have HZ34 := Lib.hid hz4
      clear hw4 hq4 hb4 hz4
      have cA := alive_any w4 (HT.out.later (HB1.out.trans (HB4.out.mono HB1.out.size))) (HG.out.later (HB1.out.trans (HB4.out.mono HB1.out.size)))
      by_cases h38 : 38 < i
      · obtain rfl := H1a.out h38
        obtain rfl := H2a.out h38
        go_wp2_with fail
        refine cA.mono ?_
        rintro e w5 ⟨rfl, hb5⟩
        have HB5 := Lib.hid (HB1.out.trans ((HB4.out.trans (hb5.mono HB4.out.size)).mono HB1.out.size))
        clear cA hb5
        go_wp2_with fail
        go_ret
        exact ⟨rfl, HB5.out⟩
      · obtain ⟨rfl, hp1⟩ := H1b.out (by omega)
        obtain ⟨rfl, hp2⟩ := H2b.out (by omega)
        go_wp2_with fail
        refine cA.mono ?_
        rintro e w5 ⟨rfl, hb5⟩
        have HB5 := Lib.hid (HB4.out.trans (hb5.mono HB4.out.size))
        have hq5 := (hb5.block _ HZ4.out).trans HQ4.out
        have hr5 := (hb5.block _ HZ34.out).trans HR4.out
        have c5 := HD1.out w5 HB5.out
        rw [hp1] at c5
        obtain ⟨⟨q0, q1, q2, q3, q4⟩, qf⟩ := cells_five hq5
        have HR5 := Lib.hid hr5
        have HZ5 := Lib.hid (Nat.lt_of_lt_of_le HZ34.out hb5.size)
        have HB35 := Lib.hid (HB34.out.trans (hb5.mono HB34.out.size))
        clear cA hb5 hq5 hr5
        go_wp2_with fail
        refine c5.mono ?_
        rintro e w6 ⟨rfl, hb6⟩
        have HB6 := Lib.hid (HB1.out.trans ((HB5.out.trans (hb6.mono HB5.out.size)).mono HB1.out.size))
        have hr6 := (hb6.block _ HZ5.out).trans HR5.out
        have c6 := HD3.out w6 (HB35.out.trans (hb6.mono HB35.out.size))
        rw [hp2] at c6
        have ew : wrap64 ((i : Int) + 2) = ((i + 2 : Nat) : Int) := (IntWalk.wrap64_in _ (by omega)).trans (by omega)
        obtain ⟨⟨q0, q1, q2, q3, q4⟩, qf⟩ := cells_five hr6
        clear c5 hb6 hr6
        go_wp2_with fail
        refine c6.mono ?_
        rintro e w7 ⟨rfl, hb7⟩
        have HB7 := Lib.hid (HB6.out.trans (hb7.mono HB6.out.size))
        clear c6 hb7
        go_wp2_with fail
        go_ret
        exact ⟨rfl, HB7.out⟩
end Go.Proofs.YtnjhmjkonmmomaaDoor.J
end
/- JClone: slices.Clone of parts. A part that is moved: the plain function. -/
section
namespace Go.Proofs.YtnjhmjkonmmomaaDoor.J
open Go.RowKit
open Go.Lib hiding intOf
open Go.Proofs.YtnjhmjkonmmomaaDoor.U Go.Proofs.YtnjhmjkonmmomaaDoor.S Go.Proofs.YtnjhmjkonmmomaaDoor.T

theorem set_five {W : World} {b : Nat} {t : TypeId} {u0 u1 u2 u3 u4 : Value} (v0 v1 v2 v3 v4 : Value) (h : W.heap[b]? = some (.cells #[u0, u1, u2, u3, u4] t (0, 0))) :
    ∃ W', ((((W.setCell ⟨b, 0, none⟩ v0).setCell ⟨b, 1, none⟩ v1).setCell ⟨b, 2, none⟩ v2).setCell ⟨b, 3, none⟩ v3).setCell ⟨b, 4, none⟩ v4 = W' ∧ W'.heap[b]? = some (.cells #[v0, v1, v2, v3, v4] t (0, 0)) ∧ (∀ k, k ≠ b → W'.heap[k]? = W.heap[k]?) ∧ ∀ B, B ≤ b → Below B W W' := by
  have s0 : (W.setCell ⟨b, 0, none⟩ v0).heap[b]? = some (.cells #[v0, u1, u2, u3, u4] t (0, 0)) := Go.Joins.block_setCell h v0
  have s1 : ((W.setCell ⟨b, 0, none⟩ v0).setCell ⟨b, 1, none⟩ v1).heap[b]? = some (.cells #[v0, v1, u2, u3, u4] t (0, 0)) := Go.Joins.block_setCell s0 v1
  have s2 : (((W.setCell ⟨b, 0, none⟩ v0).setCell ⟨b, 1, none⟩ v1).setCell ⟨b, 2, none⟩ v2).heap[b]? = some (.cells #[v0, v1, v2, u3, u4] t (0, 0)) := Go.Joins.block_setCell s1 v2
  have s3 : ((((W.setCell ⟨b, 0, none⟩ v0).setCell ⟨b, 1, none⟩ v1).setCell ⟨b, 2, none⟩ v2).setCell ⟨b, 3, none⟩ v3).heap[b]? = some (.cells #[v0, v1, v2, v3, u4] t (0, 0)) := Go.Joins.block_setCell s2 v3
  have s4 : (((((W.setCell ⟨b, 0, none⟩ v0).setCell ⟨b, 1, none⟩ v1).setCell ⟨b, 2, none⟩ v2).setCell ⟨b, 3, none⟩ v3).setCell ⟨b, 4, none⟩ v4).heap[b]? = some (.cells #[v0, v1, v2, v3, v4] t (0, 0)) := Go.Joins.block_setCell s3 v4
  have oth : ∀ k, k ≠ b → (((((W.setCell ⟨b, 0, none⟩ v0).setCell ⟨b, 1, none⟩ v1).setCell ⟨b, 2, none⟩ v2).setCell ⟨b, 3, none⟩ v3).setCell ⟨b, 4, none⟩ v4).heap[k]? = W.heap[k]? := fun k hk =>
    (Below.heap_setCell _ _ _ _ hk).trans ((Below.heap_setCell _ _ _ _ hk).trans ((Below.heap_setCell _ _ _ _ hk).trans ((Below.heap_setCell _ _ _ _ hk).trans (Below.heap_setCell _ _ _ _ hk))))
  have b1 : ∀ B, B ≤ b → ∀ (X : World) (j : Nat) (v : Value), Below B X (X.setCell ⟨b, j, none⟩ v) := fun B hB X j v => ⟨rfl, rfl, rfl, by simp, fun k hk => Below.heap_setCell _ _ _ _ (by show k ≠ b; omega)⟩
  exact ⟨_, rfl, s4, oth, fun B hB => ((((b1 B hB _ _ _).trans (b1 B hB _ _ _)).trans (b1 B hB _ _ _)).trans (b1 B hB _ _ _)).trans (b1 B hB _ _ _)⟩
set_option maxHeartbeats 4000000 in
set_option maxRecDepth 20000 in
theorem clone_own {w : World} {a : Option Addr} {n c : Nat} {xs : List Value} (hc : n = 0 ∨ ∃ g off, a = some ⟨g, off, none⟩ ∧ CellsAt w g off xs) (hl : xs.length = n * 5) (hone : ∀ u ∈ xs, u.oneCell' = true) (hw : n ≤ 1099511627776) :
    Calls Tryd.prog 18 #[.slice a n c] w fun e w' => ∃ v', e = .returned v' ∧ w'.ownsRow w.heap.size 24 5 v' n xs ∧ Below w.heap.size w w' := by
  obtain ⟨iP, hi0, hz0, hz1, hz2⟩ := info_parts infoP
  have q22 : ∀ (w : World) (a : Option Addr) (n c n' c' : Nat), (binOp .eql 22 (.slice a n c) (.slice none n' c')).run Tryd.prog w = .ok (.bool a.isNone) w := fun w a n c n' c' => Lib.run_eql_slice_nil w _ _ a n c n' c' Tryd.underlying22
  have HC := Lib.hid hc
  have HL := Lib.hid hl
  have HO := Lib.hid hone
  clear hc hl hone
  cases a with
  | none =>
    have h0 : n = 0 := by
      rcases HC.out with h | ⟨g, off, h, _⟩
      · exact h
      · cases h
    subst h0
    have hx : xs = [] := List.eq_nil_of_length_eq_zero (by have := HL.out; omega)
    subst hx
    go_enter Tryd.func18, Tryd.ntmps18
    go_wp2_with fail
    go_ret
    exact ⟨_, rfl, World.ownsRow_nil _ _ _ _, Below.refl _ _⟩
  | some ad =>
    go_enter Tryd.func18, Tryd.ntmps18
    have hcb : ∀ X, Below w.heap.size w X → (n = 0 ∨ ∃ g off, some ad = some ⟨g, off, none⟩ ∧ CellsAt X g off xs) := fun X hX => HC.out.imp id (fun ⟨g, off, h1, h2⟩ => ⟨g, off, h1, fun j u hj => (hX.cell (World.block_lt_of_cell? w _ (h2 j u hj))).trans (h2 j u hj)⟩)
    have HCB := Lib.hid hcb
    clear hcb
    go_wp2_with (at_builtin; refine wpList_append_row rfl _ _ 22 rfl w.heap.size 24 iP _ 5 72 Tryd.underlying22 hi0 hz0 hz1 hz2 rfl (by decide) _ 0 [] rfl (World.ownsRow_made w #[] 0 (Nat.le_refl _) (Nat.zero_le _) rfl) _ n c xs rfl HL.out (HCB.out _ ((Below.refl _ _).alloc (Nat.le_refl _) _)) HO.out (by unfold maxLen; omega) (by omega) (by simp) ?_)
    intro v' w1 hown hgrow _
    have hb : Below w.heap.size w w1 := ((Below.refl _ w).alloc (Nat.le_refl _) (.cells #[] 24)).grown hgrow (by simp) (by intro k hk; simp [Value.ownBlock] at hk; omega)
    have HOwn : Hid (w1.ownsRow w.heap.size 24 5 v' n xs) := Lib.hid (by simpa using hown)
    have HB := Lib.hid hb
    clear hown hgrow hb
    go_wp2_with fail
    go_ret
    exact ⟨v', rfl, HOwn.out, HB.out⟩

/-! ### A part that is moved -/
def moved (f e x by' : Int) : Int := if f = 0 ∧ e = 0 then x else wrap64 (x + by')
mutual
def shiftP (by' : Int) : Pt → Pt
  | .mk k t f e ks => .mk k t (moved f e f by') (moved f e e by') (shiftL by' ks)
def shiftL (by' : Int) : List Pt → List Pt
  | [] => []
  | p :: r => shiftP by' p :: shiftL by' r
end
theorem shiftL_map (b : Int) : ∀ l, shiftL b l = l.map (shiftP b)
  | [] => rfl
  | p :: r => by rw [shiftL, shiftL_map b r]; rfl
theorem shiftL_length (b : Int) (l : List Pt) : (shiftL b l).length = l.length := by rw [shiftL_map, List.length_map]
theorem shiftL_snoc (b : Int) (l : List Pt) (p : Pt) : shiftL b (l ++ [p]) = shiftL b l ++ [shiftP b p] := by rw [shiftL_map, shiftL_map, List.map_append]; rfl
theorem shiftL_take_succ (b : Int) {l : List Pt} {i : Nat} (h : i < l.length) : shiftL b (l.take (i + 1)) = shiftL b (l.take i) ++ [shiftP b l[i]] := by
  rw [List.take_succ_eq_append_getElem h, shiftL_snoc]
mutual
theorem shift_wt (b : Int) : ∀ p, wtP (shiftP b p) = wtP p
  | .mk k t f e ks => by rw [shiftP, wtP, wtP, shiftL_wt b ks]
theorem shiftL_wt (b : Int) : ∀ l, wtL (shiftL b l) = wtL l
  | [] => by rw [shiftL]
  | p :: r => by rw [shiftL, wtL, wtL, shift_wt b p, shiftL_wt b r]
end
end Go.Proofs.YtnjhmjkonmmomaaDoor.J
end
/- JShift: A part that is moved: the program's Shift. -/
section
namespace Go.Proofs.YtnjhmjkonmmomaaDoor.J
open Go.RowKit
open Go.Lib hiding intOf
open Go.Proofs.YtnjhmjkonmmomaaDoor.U Go.Proofs.YtnjhmjkonmmomaaDoor.S Go.Proofs.YtnjhmjkonmmomaaDoor.T

/-- Five cells of a row are written. -/
theorem set5_at {W : World} {g o : Nat} {t : TypeId} {cur : Array Value} (v0 v1 v2 v3 v4 : Value) (h : W.heap[g]? = some (.cells cur t (0, 0))) (hs : o + 5 ≤ cur.size) :
    ∃ W' cur', ((((W.setCell ⟨g, o, none⟩ v0).setCell ⟨g, o + 1, none⟩ v1).setCell ⟨g, o + 2, none⟩ v2).setCell ⟨g, o + 3, none⟩ v3).setCell ⟨g, o + 4, none⟩ v4 = W' ∧ W'.heap[g]? = some (.cells cur' t (0, 0)) ∧ cur'.size = cur.size ∧
      (∀ j u, [v0, v1, v2, v3, v4][j]? = some u → cur'[o + j]? = some u) ∧ (∀ j, j < o ∨ o + 5 ≤ j → cur'[j]? = cur[j]?) ∧ (∀ k, k ≠ g → W'.heap[k]? = W.heap[k]?) ∧ ∀ B, B ≤ g → Below B W W' := by
  have b1 : ∀ B, B ≤ g → ∀ (X : World) (j : Nat) (v : Value), Below B X (X.setCell ⟨g, j, none⟩ v) := fun B hB X j v => ⟨rfl, rfl, rfl, by simp, fun k hk => Below.heap_setCell _ _ _ _ (by show k ≠ g; omega)⟩
  have s0 := Go.Joins.block_setCell h (i := o) v0
  have s1 := Go.Joins.block_setCell s0 (i := o + 1) v1
  have s2 := Go.Joins.block_setCell s1 (i := o + 2) v2
  have s3 := Go.Joins.block_setCell s2 (i := o + 3) v3
  have s4 := Go.Joins.block_setCell s3 (i := o + 4) v4
  refine ⟨_, _, rfl, s4, ?_, ?_, ?_, ?_, fun B hB => ((((b1 B hB _ _ _).trans (b1 B hB _ _ _)).trans (b1 B hB _ _ _)).trans (b1 B hB _ _ _)).trans (b1 B hB _ _ _)⟩
  · simp
  · intro j u hj
    rcases j with _ | _ | _ | _ | _ | j
    · simp at hj; subst hj; simp [Array.getElem?_setIfInBounds]; omega
    · simp at hj; subst hj; simp [Array.getElem?_setIfInBounds]; omega
    · simp at hj; subst hj; simp [Array.getElem?_setIfInBounds]; omega
    · simp at hj; subst hj; simp [Array.getElem?_setIfInBounds]; omega
    · simp at hj; subst hj; simp [Array.getElem?_setIfInBounds]; omega
    · simp at hj
  · intro j hj
    simp only [Array.getElem?_setIfInBounds]
    rw [if_neg (by omega), if_neg (by omega), if_neg (by omega), if_neg (by omega), if_neg (by omega)]
  · intro k hk
    exact (Below.heap_setCell _ _ _ _ hk).trans ((Below.heap_setCell _ _ _ _ hk).trans ((Below.heap_setCell _ _ _ _ hk).trans ((Below.heap_setCell _ _ _ _ hk).trans (Below.heap_setCell _ _ _ _ hk))))
theorem idx_row {o : Oper} {a : Act} (x y g off n i c : Nat) (W : World) (ho : o.op = .indexAddr 22 (.tmp x) (.tmp y)) (h1 : a.eval (.tmp x) = .slice (some ⟨g, off, none⟩) n c) (h2 : a.eval (.tmp y) = .int .i64 i) (hin : i < n) : (execOp a.eval o).run Tryd.prog W = .ok (.value (.pointer (some ⟨g, off + i * 5, none⟩))) W := by
  have hm : (0 : Int) ≤ (i : Int) := by omega
  have hm2 : (i : Int) < (n : Int) := by omega
  have hr : (Instr.indexAt 22 (.slice (some ⟨g, off, none⟩) n c) (.int .i64 i)).run Tryd.prog W = .ok (.pointer (some ⟨g, off + i * 5, none⟩)) W := by
    simp [go_sem]
    intro h
    omega
  unfold execOp
  rw [ho]
  simp only [h1, h2, Sem.run_bind, hr, Result.andThen_ok, Sem.run_pure]
theorem wanted_step {c : Prop} [Decidable c] {A B : Prop} (hc : c) (hA : A) : if c then A else B := by rw [if_pos hc]; exact hA
def ShiftPost (q : Pt) (w : World) (e : Ending) (w' : World) : Prop := ∃ lv, e = .returned (arg q lv) ∧ KidsIn w' (fun g => w.heap.size ≤ g) q lv ∧ Below w.heap.size w w'
/-- The row while its parts are moved, the first i done. -/
structure Half (H g : Nat) (b : Int) (ks : List Pt) (xs : List Value) (cap i : Nat) (W : World) : Prop where
  hg : H ≤ g
  row : ∃ (cur : Array Value) (ys : List Value), W.heap[g]? = some (.cells cur 24 (0, 0)) ∧ cur.size = cap * 5 ∧ PartsIn W (fun k => H ≤ k ∧ k ≠ g) (shiftL b (ks.take i)) ys ∧ ∀ (j : Nat) (u : Value), (ys ++ xs.drop (i * 5))[j]? = some u → cur[j]? = some u
def ShiftC (p : Pt) : Prop := ∀ (lv : Value) (R : Nat → Prop) (w : World) (b : Int), KidsIn w R p lv → wtP p ≤ 1099511627776 →
  Calls Tryd.prog 9 #[arg p lv, .int .i64 b] w (ShiftPost (shiftP b p) w)
set_option maxHeartbeats 8000000 in
set_option maxRecDepth 20000 in
theorem shift_any : ∀ p, ShiftC p := Pt.ind fun k t f e ks IH lv R w b hv hw => by
  obtain ⟨a, c, rfl⟩ := kids_form hv
  obtain ⟨_, hcap, hrow⟩ := kids_row hv
  have HIH := Lib.hid IH
  rw [wtP] at hw
  have hlb : ks.length ≤ 1099511627776 := Nat.le_trans (wtL_length ks) (by omega)
  have HWM := Lib.hid (fun v (h : v ∈ ks) => Nat.le_trans (wtL_mem h) (show wtL ks ≤ 1099511627776 by omega))
  obtain ⟨xs, hp, hc, hl⟩ : ∃ xs, PartsIn w R ks xs ∧ (ks.length = 0 ∨ ∃ g off, a = some ⟨g, off, none⟩ ∧ CellsAt w g off xs) ∧ xs.length = ks.length * 5 := by
    rcases hrow with rfl | ⟨g, off, xs, rfl, _, h2, h3⟩
    · exact ⟨[], rfl, .inl rfl, rfl⟩
    · exact ⟨xs, h3, .inr ⟨g, off, rfl, h2⟩, by have := PartsIn.length h3; omega⟩
  have HP := Lib.hid hp
  have HC := Lib.hid hc
  have HONE := Lib.hid (parts_one hp)
  obtain ⟨n, hn⟩ : ∃ n, ks.length = n := ⟨_, rfl⟩
  have HN := Lib.hid hn
  rw [hn] at hlb hl
  have HL := Lib.hid hl
  obtain ⟨f1, hf1⟩ : ∃ x, moved f e f b = x := ⟨_, rfl⟩
  obtain ⟨e1, he1⟩ : ∃ x, moved f e e b = x := ⟨_, rfl⟩
  obtain ⟨kb, hkb⟩ : ∃ x, bstr k = x := ⟨_, rfl⟩
  obtain ⟨tb, htb⟩ : ∃ x, bstr t = x := ⟨_, rfl⟩
  have HFin : Hid (∀ (W : World) (va : Option Addr) (vc : Nat), Below w.heap.size w W → (n = 0 ∨ ∃ g ys, va = some ⟨g, 0, none⟩ ∧ n ≤ vc ∧ w.heap.size ≤ g ∧ CellsAt W g 0 ys ∧ PartsIn W (fun k => w.heap.size ≤ k) (shiftL b ks) ys) →
      ShiftPost (shiftP b (.mk k t f e ks)) w (.returned (.agg #[.string kb, .string tb, .int .i64 f1, .int .i64 e1, .slice va n vc])) W) := Lib.hid (fun W va vc hb h => by
    have hq : shiftP b (.mk k t f e ks) = .mk k t f1 e1 (shiftL b ks) := by rw [shiftP, hf1, he1]
    rw [hq]
    refine ⟨.slice va n vc, by rw [arg, five, hkb, htb], ?_, hb⟩
    rcases h with h0 | ⟨g, ys, rfl, h1, h2, h3, h4⟩
    · have hk0 : ks = [] := List.eq_nil_of_length_eq_zero (by rw [hn]; exact h0)
      subst hk0
      refine ⟨va, vc, ?_, Nat.zero_le _, .inl rfl⟩
      rw [h0]; rfl
    · refine ⟨some ⟨g, 0, none⟩, vc, by rw [shiftL_length, hn], by rw [shiftL_length, hn]; exact h1, .inr ⟨g, 0, ys, rfl, h2, h3, h4⟩⟩)
  obtain ⟨q, hq⟩ : ∃ q, shiftP b (.mk k t f e ks) = q := ⟨_, rfl⟩
  rw [hq] at HFin ⊢
  simp only [arg, five]
  rw [hn, hkb, htb]
  have HF1 := Lib.hid hf1
  have HE1 := Lib.hid he1
  clear hv hrow IH hw hp hc hl hn hcap hkb htb hq hf1 he1
  have go : ∀ X : World, Below w.heap.size w X → (n = 0 ∨ ∃ g off, a = some ⟨g, off, none⟩ ∧ CellsAt X g off xs) := fun X hX => by
    rw [← HN.out]
    exact HC.out.imp id (fun ⟨g, off, h1, h2⟩ => ⟨g, off, h1, fun j u hj => (hX.cell (World.block_lt_of_cell? w _ (h2 j u hj))).trans (h2 j u hj)⟩)
  have HGo := Lib.hid go
  clear go HC
  go_enter Tryd.func9, Tryd.ntmps9
  by_cases hz : f = 0 ∧ e = 0
  · have hzz := hz
    obtain ⟨rfl, rfl⟩ := hzz
    go_upto_region 4 with fail
    obtain ⟨w1, hw1, hq1, hr1, hb1, hz1⟩ := two_new w (.cells #[.string kb, .string tb, .int .i64 0, .int .i64 0, .slice a n c] 24) (.cells #[.string ⟨#[]⟩, .string ⟨#[]⟩, .int .i64 0, .int .i64 0, .slice none 0 0] 24)
    rw [hw1]
    have hfe : f1 = 0 ∧ e1 = 0 := by rw [← HF1.out, ← HE1.out]; simp [moved]
    obtain ⟨rfl, rfl⟩ := hfe
    have HQ := Lib.hid hq1
    have HR := Lib.hid hr1
    have HB := Lib.hid hb1
    have HZ := Lib.hid hz1
    clear hw1 hq1 hr1 hb1 hz1 hz
    have cC := clone_own (w := w1) (c := c) (HGo.out _ HB.out) HL.out HONE.out hlb
    obtain ⟨⟨k0, k1, k2, k3, k4⟩, kf⟩ := cells_five HQ.out
    go_wp2_with fail
    refine cC.mono ?_
    rintro ee w2 ⟨v', rfl, hown, hb2⟩
    obtain ⟨va, vc, rfl⟩ := owns_len hown
    have hq2 := (hb2.block _ (by have := HZ.out; omega)).trans HQ.out
    have hr2 := (hb2.block _ HZ.out).trans HR.out
    obtain ⟨⟨k0, k1, k2, k3, k4⟩, kf⟩ := cells_five hq2
    have HQ2 := Lib.hid hq2
    have HR2 := Lib.hid hr2
    have HO2 := Lib.hid hown
    have HB2 := Lib.hid (HB.out.trans (hb2.mono HB.out.size))
    have HZ2 := Lib.hid (Nat.lt_of_lt_of_le HZ.out hb2.size)
    clear cC hq2 hr2 hown hb2 HQ HR HGo
    go_upto_region 5 with fail
    have hq3 : (w2.setCell ⟨w.heap.size, 4, none⟩ (.slice va n vc)).heap[w.heap.size]? = some (.cells #[.string kb, .string tb, .int .i64 0, .int .i64 0, .slice va n vc] 24 (0, 0)) := Go.Joins.block_setCell HQ2.out _
    have hoth : ∀ k, k ≠ w.heap.size → (w2.setCell ⟨w.heap.size, 4, none⟩ (.slice va n vc)).heap[k]? = w2.heap[k]? := fun k hk => Below.heap_setCell _ _ _ _ hk
    have hb3 : Below w.heap.size w (w2.setCell ⟨w.heap.size, 4, none⟩ (.slice va n vc)) := HB2.out.trans ⟨rfl, rfl, rfl, by simp, fun k hk => hoth k (by omega)⟩
    have hz3 : (w2.setCell ⟨w.heap.size, 4, none⟩ (.slice va n vc)).heap.size = w2.heap.size := by simp
    generalize w2.setCell ⟨w.heap.size, 4, none⟩ (.slice va n vc) = w3 at hq3 hoth hb3 hz3 ⊢
    have hr3 := (hoth (w.heap.size + 1) (by omega)).trans HR2.out
    have hhalf : n = 0 ∨ ∃ g, va = some ⟨g, 0, none⟩ ∧ n ≤ vc ∧ g < w3.heap.size ∧ g ≠ w.heap.size + 1 ∧ Half (w.heap.size + 2) g b ks xs vc 0 w3 := by
      rcases HO2.out.2 with ⟨_, h0⟩ | ⟨g, cap, cur, hv, h1, h2, h3, _, h4, h5⟩
      · exact .inl h0
      · cases hv
        have hgl := (Array.getElem?_eq_some_iff.1 h2).1
        have hzz := HZ.out
        refine .inr ⟨g, rfl, h3, by omega, by omega, ⟨by omega, cur, [], (hoth g (by omega)).trans h2, h4, rfl, fun j u hj => ?_⟩⟩
        rw [List.nil_append, Nat.zero_mul, List.drop_zero, ← h5, List.getElem?_take] at hj
        split at hj
        · simpa using hj
        · cases hj
    have HQ3 := Lib.hid hq3
    have HR3 := Lib.hid hr3
    have HB3 := Lib.hid hb3
    have HH3 := Lib.hid hhalf
    have HZ3 : Hid (w.heap.size + 1 < w3.heap.size) := Lib.hid (by have := HZ2.out; omega)
    obtain ⟨⟨k0, k1, k2, k3, k4⟩, kf⟩ := cells_five hq3
    clear hq3 hoth hb3 hz3 hr3 hhalf HQ2 HR2 HO2 HB2 HZ2 HB HZ
    go_wp2_with fail
    clear k0 k1 k2 k3 k4 kf
    go_loopw [32] (fun iv wr => ∃ i : Nat, iv = .int .i64 i ∧ i ≤ n ∧ Hid (Below w.heap.size w wr) ∧ Hid (wr.heap[w.heap.size]? = some (.cells #[.string kb, .string tb, .int .i64 0, .int .i64 0, .slice va n vc] 24 (0, 0))) ∧ Hid (wr.heap[w.heap.size + 1]? = some (.cells #[.string ⟨#[]⟩, .string ⟨#[]⟩, .int .i64 0, .int .i64 0, .slice none 0 0] 24 (0, 0))) ∧
        Hid (n = 0 ∨ ∃ g, va = some ⟨g, 0, none⟩ ∧ n ≤ vc ∧ g < wr.heap.size ∧ g ≠ w.heap.size + 1 ∧ Half (w.heap.size + 2) g b ks xs vc i wr)) (fun iv _ => n - (Go.RowKit.intOf iv).toNat)
    case atStart => exact ⟨0, rfl, Nat.zero_le _, HB3, HQ3, HR3, HH3⟩
    case round =>
      obtain ⟨i, rfl, hi, HB, HQ, HR, HH⟩ := hrel
      obtain ⟨⟨k0, k1, k2, k3, k4⟩, kf⟩ := cells_five HQ.out
      clear HB3 HQ3 HR3 HH3
      by_cases hlt : i < n
      · have hll : i < ks.length := by rw [HN.out]; exact hlt
        obtain ⟨g, rfl, hnc, hgl, hg1, hH⟩ := HH.out.resolve_left (by omega)
        obtain ⟨hg, cur, ys, hcur, hcs, hys, hcy⟩ := hH
        obtain ⟨lv, hkid, hget⟩ := parts_get i hll HP.out
        obtain ⟨p, hpp⟩ : ∃ p, ks[i] = p := ⟨_, rfl⟩
        have hpm : p ∈ ks := by rw [← hpp]; exact List.getElem_mem hll
        have hts := shiftL_take_succ b hll
        rw [hpp] at hkid hget hts
        obtain ⟨kk, tt, ff, ee, kks⟩ := p
        obtain ⟨aa, cc, rfl⟩ := kids_form hkid
        have hyl : ys.length = i * 5 := by have := PartsIn.length hys; rw [shiftL_length, List.length_take] at this; omega
        have at' : ∀ j u, (five (.mk kk tt ff ee kks) (.slice aa kks.length cc))[j]? = some u → wr.cell? ⟨g, i * 5 + j, none⟩ = some u := fun j u hj => by
          have h1 := hget j u hj
          have h2 := hcy (i * 5 + j) u (by rw [List.getElem?_append_right (by omega), hyl, List.getElem?_drop, show i * 5 + (i * 5 + j - i * 5) = i * 5 + j by omega]; exact h1)
          unfold World.cell?
          rw [hcur]
          exact h2
        have j0 : wr.cell? ⟨g, i * 5, none⟩ = some (.string (bstr kk)) := at' 0 _ rfl
        have j1 := at' 1 _ rfl
        have j2 := at' 2 _ rfl
        have j3 := at' 3 _ rfl
        have j4 := at' 4 _ rfl
        have cI := fun X (hX : Below w.heap.size w X) => (HIH.out _ hpm) (.slice aa kks.length cc) R X b (kids_below hkid hX) (HWM.out _ hpm)
        simp only [arg, five] at cI
        obtain ⟨y0, hy0⟩ : ∃ x, bstr kk = x := ⟨_, rfl⟩
        obtain ⟨y1, hy1⟩ : ∃ x, bstr tt = x := ⟨_, rfl⟩
        obtain ⟨z0, hz0⟩ : ∃ x, kks.length = x := ⟨_, rfl⟩
        rw [hy0] at j0 cI
        rw [hy1] at j1 cI
        rw [hz0] at j4 cI
        obtain ⟨sq, hsq⟩ : ∃ x, shiftP b (.mk kk tt ff ee kks) = x := ⟨_, rfl⟩
        rw [hsq] at cI hts
        have HCI := Lib.hid cI
        have HHalf := Lib.hid (Half.mk hg ⟨cur, ys, hcur, hcs, hys, hcy⟩)
        have HTS := Lib.hid hts
        have HG := Lib.hid (And.intro hnc (And.intro hgl hg1))
        clear hcur hcs hys hcy hkid hget hpp hpm hts at' cI hy0 hy1 hz0 hsq hg HH hnc hgl hg1 hyl
        go_upto_region 8 with fail
        obtain ⟨w4, hw4, hq4, hb4, hz4⟩ := new_block wr (.cells #[.string y0, .string y1, .int .i64 ff, .int .i64 ee, .slice aa z0 cc] 24)
        rw [hw4]
        obtain ⟨KB, hK⟩ : ∃ KB, wr.heap.size = KB := ⟨_, rfl⟩
        have HWK := Lib.hid hK
        rw [hK] at hq4 hb4 hz4 ⊢
        have hww : w.heap.size + 1 < KB := by have := HR.out; have := (Array.getElem?_eq_some_iff.1 this).1; omega
        have hq := (hb4.block w.heap.size (by omega)).trans HQ.out
        have hr := (hb4.block (w.heap.size + 1) hww).trans HR.out
        have hww1 : w.heap.size + 2 ≤ KB := hww
        have hB4 : Below w.heap.size w w4 := HB.out.trans (hb4.mono (by omega))
        have hH4 : Half (w.heap.size + 2) g b ks xs vc i w4 := by
          obtain ⟨a1, cur, ys, a2, a3, a4, a5⟩ := HHalf.out
          exact ⟨a1, cur, ys, (hb4.block g (by have := HG.out.2.1; omega)).trans a2, a3, PartsIn.later (fun k hk hkl => hb4.block k (by omega)) (fun _ h => h) _ _ a4, a5⟩
        have HQ4 := Lib.hid hq4
        have HB4 := Lib.hid hB4
        have HH4 := Lib.hid hH4
        have HP4 := Lib.hid hq
        have HR4 := Lib.hid hr
        have HZ4 := Lib.hid hz4
        have HWW := Lib.hid hww
        clear hw4 hq4 hb4 hz4 hK hww hq hr hB4 hH4 j0 j1 j2 j3 j4 k0 k1 k2 k3 k4 kf HB HQ HR HHalf
        refine wp_region_held_drew (S := fun X => Below w.heap.size w X ∧ X.heap[w.heap.size]? = some (.cells #[.string kb, .string tb, .int .i64 0, .int .i64 0, .slice (some ⟨g, 0, none⟩) n vc] 24 (0, 0)) ∧ X.heap[KB]? = some (.cells #[.string y0, .string y1, .int .i64 ff, .int .i64 ee, .slice aa z0 cc] 24 (0, 0))) (by kernel_rfl) ⟨HB4.out.drew, HP4.out, HQ4.out⟩ (fun hHeld => ?_)
        have HD1 : Hid (Half (w.heap.size + 2) g b ks xs vc i w4.drew) := Lib.hid (by
          obtain ⟨a1, cur, ys, a2, a3, a4, a5⟩ := HH4.out
          exact ⟨a1, cur, ys, a2, a3, parts_below a4 ((Below.refl _ _).drew), a5⟩)
        have HD2 : Hid (w4.drew.heap[w.heap.size + 1]? = _) := Lib.hid HR4.out
        have HD3 : Hid (KB < w4.drew.heap.size) := Lib.hid HZ4.out
        obtain ⟨V, hV⟩ : ∃ V, w4.drew = V := ⟨_, rfl⟩
        rw [hV] at hHeld HD1 HD2 HD3 ⊢
        clear hV HH4 HR4 HZ4 HB4 HP4 HQ4
        refine wpAnyH_take (i := 0) (oi := ({ dst := some 37, op := Op.fieldAddr 24 (Operand.tmp 2) 4, type := 0, pos := "parse.go:36", after := #[], guard := none } : Oper)) (v := .pointer (some ⟨w.heap.size, 4, none⟩)) rfl (by kernel_rfl) (by kernel_rfl) (by kernel_rfl) (fun _ _ _ h => h) (Or.inl ⟨by rfl, fun X hX => rfl⟩) hHeld ?_
        (try simp only [Act.put, List.setIfInBounds_toArray, List.set_cons_zero, List.set_cons_succ])
        refine wpAnyH_take (i := 1) (oi := ({ dst := some 38, op := Op.load 22 (Operand.tmp 37), type := 22, pos := "parse.go:36", after := #[{ on := 0, ground := Ground.data }], guard := none } : Oper)) (v := .slice (some ⟨g, 0, none⟩) n vc) rfl (by kernel_rfl) (by kernel_rfl) (by kernel_rfl) (fun _ _ _ h => h) (Or.inl ⟨by rfl, fun X hX => by have q := (cells_five hX.2.1).1.2.2.2.2; go_simp⟩) hHeld ?_
        (try simp only [Act.put, List.setIfInBounds_toArray, List.set_cons_zero, List.set_cons_succ])
        refine wpAnyH_take (i := 2) (oi := ({ dst := some 39, op := Op.move (Operand.tmp 5), type := 3, pos := "parse.go:36", after := #[], guard := none } : Oper)) (v := .int .i64 i) rfl (by kernel_rfl) (by kernel_rfl) (by kernel_rfl) (fun _ _ _ h => h) (Or.inl ⟨by rfl, fun X hX => rfl⟩) hHeld ?_
        (try simp only [Act.put, List.setIfInBounds_toArray, List.set_cons_zero, List.set_cons_succ])
        refine wpAnyH_take (i := 3) (oi := ({ dst := some 40, op := Op.load 24 (Operand.tmp 6), type := 24, pos := "parse.go:36", after := #[], guard := none } : Oper)) (v := .agg #[.string y0, .string y1, .int .i64 ff, .int .i64 ee, .slice aa z0 cc]) rfl (by kernel_rfl) (by kernel_rfl) (by kernel_rfl) (fun _ _ _ h => h) (Or.inl ⟨by rfl, fun X hX => by obtain ⟨q0, q1, q2, q3, q4⟩ := (cells_five hX.2.2).1; go_simp⟩) hHeld ?_
        (try simp only [Act.put, List.setIfInBounds_toArray, List.set_cons_zero, List.set_cons_succ])
        refine wpAnyH_take (i := 4) (oi := ({ dst := some 41, op := Op.move (Operand.tmp 1), type := 3, pos := "parse.go:36", after := #[], guard := none } : Oper)) (v := .int .i64 b) rfl (by kernel_rfl) (by kernel_rfl) (by kernel_rfl) (fun _ _ _ h => h) (Or.inl ⟨by rfl, fun X hX => rfl⟩) hHeld ?_
        (try simp only [Act.put, List.setIfInBounds_toArray, List.set_cons_zero, List.set_cons_succ])
        refine wpAnyH_ready (rs := [5]) (by kernel_rfl) (by simp) ?_
        refine (AllReadyH.cons (o := ({ dst := some 42, op := Op.call { callee := Callee.value (Operand.func 9), args := #[Operand.tmp 40, Operand.tmp 41], argTypes := #[24, 3] }, type := 24, pos := "parse.go:36", after := #[{ on := 3, ground := Ground.data }, { on := 4, ground := Ground.data }], guard := none } : Oper)) rfl (fun K hK => ?_) AllReadyH.nil)
        refine wanted_step (by kernel_rfl) ?_
        go_simp
        go_at_call 9
        refine (HCI.out V hHeld.1).mono ?_
        rintro e' w5 ⟨lv5, rfl, hk5, hb5⟩
        have hVb : w.heap.size ≤ V.heap.size := hHeld.1.size
        have hS5 : Below w.heap.size w w5 ∧ w5.heap[w.heap.size]? = _ ∧ w5.heap[KB]? = _ := ⟨hHeld.1.trans (hb5.mono hVb), (hb5.block _ (by have := HWW.out; have := HD3.out; omega)).trans hHeld.2.1, (hb5.block _ HD3.out).trans hHeld.2.2⟩
        dsimp only
        refine hK.out _ _ (hS5) (fun hHeld5 => ?_)
        (try simp only [Act.put, List.setIfInBounds_toArray, List.set_cons_zero, List.set_cons_succ])
        clear hK K
        obtain ⟨sk, st, sf, se, sks⟩ := sq
        obtain ⟨sa, sc, rfl⟩ := kids_form hk5
        simp only [arg, five]
        refine wpAnyH_take (i := 6) (oi := ({ dst := some 43, op := Op.indexAddr 22 (Operand.tmp 38) (Operand.tmp 39), type := 0, pos := "parse.go:36", after := #[{ on := 1, ground := Ground.data }, { on := 2, ground := Ground.data }, { on := 0, ground := Ground.phase }, { on := 1, ground := Ground.phase }, { on := 2, ground := Ground.phase }, { on := 3, ground := Ground.phase }, { on := 4, ground := Ground.phase }, { on := 5, ground := Ground.phase }], guard := none } : Oper)) (v := .pointer (some ⟨g, i * 5, none⟩)) rfl (by kernel_rfl) (by kernel_rfl) (by kernel_rfl) (fun _ _ _ h => h) (Or.inl ⟨by rfl, fun X hX => (idx_row 38 39 g 0 n i vc X rfl rfl rfl hlt).trans (by rw [Nat.zero_add])⟩) hHeld5 ?_
        (try simp only [Act.put, List.setIfInBounds_toArray, List.set_cons_zero, List.set_cons_succ])
        obtain ⟨a1, cur, ys, a2, a3, a4, a5⟩ := HD1.out
        have hVg : g < V.heap.size := (Array.getElem?_eq_some_iff.1 a2).1
        have c2 := (hb5.block g hVg).trans a2
        have hnc := HG.out.1
        have hsz : i * 5 + 5 ≤ cur.size := by omega
        obtain ⟨W', cur', hW', d1, d2, d3, d4, d5, d6⟩ := set5_at (.string (bstr sk)) (.string (bstr st)) (.int .i64 sf) (.int .i64 se) (.slice sa sks.length sc) c2 hsz
        have cl : ∀ j, j < 5 → ∃ u, w5.cell? ⟨g, i * 5 + j, none⟩ = some u := fun j hj => by
          have hj5 : i * 5 + j < cur.size := Nat.lt_of_lt_of_le (Nat.add_lt_add_left hj _) hsz
          unfold World.cell?; rw [c2]; exact ⟨cur[i * 5 + j]'hj5, Array.getElem?_eq_getElem hj5⟩
        obtain ⟨u0, q0⟩ : ∃ u, w5.cell? ⟨g, i * 5, none⟩ = some u := cl 0 (by omega)
        obtain ⟨u1, q1⟩ := cl 1 (by omega)
        obtain ⟨u2, q2⟩ := cl 2 (by omega)
        obtain ⟨u3, q3⟩ := cl 3 (by omega)
        obtain ⟨u4, q4⟩ := cl 4 (by omega)
        have qf : ∀ j, w5.frozen? ⟨g, j, none⟩ = false := fun j => by simp [World.frozen?, c2]
        have hgK : g ≠ KB := by have := HG.out.2.1; have := HWK.out; omega
        have hgP : g ≠ w.heap.size := by omega
        have hgQ : g ≠ w.heap.size + 1 := HG.out.2.2
        have hSf : Below w.heap.size w W' ∧ W'.heap[w.heap.size]? = _ ∧ W'.heap[KB]? = _ := ⟨hS5.1.trans (d6 _ (by omega)), (d5 _ (fun h => hgP h.symm)).trans hS5.2.1, (d5 _ (fun h => hgK h.symm)).trans hS5.2.2⟩
        have hHf : Half (w.heap.size + 2) g b ks xs vc (i + 1) W' := by
          have hyl : ys.length = i * 5 := by have h := PartsIn.length a4; rw [shiftL_length, List.length_take] at h; have := HN.out; omega
          refine ⟨a1, cur', ys ++ five (.mk sk st sf se sks) (.slice sa sks.length sc), d1, by rw [d2]; exact a3, ?_, fun j u hj => ?_⟩
          · rw [HTS.out]
            refine PartsIn.snoc (PartsIn.later (fun k hk hkl => (d5 k hk.2).trans (hb5.block k hkl)) (fun _ h => h) _ _ a4) (KidsIn.later (fun k hk _ => d5 k (by omega)) (fun k hk => ⟨by have := hVb; have := HD3.out; have := HWW.out; omega, by omega⟩) _ _ hk5)
          · by_cases h1 : j < i * 5
            · rw [d4 j (.inl h1)]
              refine a5 j u ?_
              rw [List.append_assoc, List.getElem?_append_left (by omega)] at hj
              rw [List.getElem?_append_left (by omega)]; exact hj
            · by_cases h2 : j < i * 5 + 5
              · obtain ⟨m, rfl⟩ : ∃ m, j = i * 5 + m := ⟨j - i * 5, by omega⟩
                rw [List.append_assoc, List.getElem?_append_right (by omega), hyl, show i * 5 + m - i * 5 = m by omega, List.getElem?_append_left (by rw [five_length]; omega)] at hj
                exact d3 m u hj
              · rw [d4 j (.inr (by omega))]
                refine a5 j u ?_
                rw [List.getElem?_append_right (by rw [List.length_append, five_length]; omega), List.length_append, five_length, List.getElem?_drop] at hj
                rw [List.getElem?_append_right (by omega), List.getElem?_drop, ← hj]
                congr 1
                omega
        have hr5 := (d5 (w.heap.size + 1) (fun h => hgQ h.symm)).trans ((hb5.block _ (by have := HD3.out; have := HWW.out; omega)).trans HD2.out)
        have hgs : g < W'.heap.size := (Array.getElem?_eq_some_iff.1 d1).1
        have HSf := Lib.hid hSf
        have HHf := Lib.hid hHf
        have HR5 := Lib.hid hr5
        have HGS := Lib.hid hgs
        clear a1 a2 a3 a4 a5 c2 hsz cl d1 d2 d3 d4 d5 d6 hHf hr5 hgs hk5 hb5 hS5 hVg hgK hgP hgQ
        refine wpAnyH_ready (rs := [7]) (by kernel_rfl) (by simp) ?_
        refine (AllReadyH.cons (o := ({ dst := none, op := Op.store 24 (Operand.tmp 43) (Operand.tmp 42), type := 0, pos := "parse.go:36", after := #[{ on := 6, ground := Ground.data }, { on := 5, ground := Ground.data }, { on := 5, ground := Ground.chain }, { on := 0, ground := Ground.phase }, { on := 1, ground := Ground.phase }, { on := 2, ground := Ground.phase }, { on := 3, ground := Ground.phase }, { on := 4, ground := Ground.phase }, { on := 5, ground := Ground.phase }], guard := none } : Oper)) rfl (fun K hK => ?_) AllReadyH.nil)
        refine wanted_step (by kernel_rfl) ?_
        go_simp
        refine hK.out _ _ (HSf.out) (fun hHeld6 => ?_)
        (try simp only [Act.put, List.setIfInBounds_toArray, List.set_cons_zero, List.set_cons_succ])
        clear hK K
        clear q0 q1 q2 q3 q4 qf hW' hSf hHeld6 hHeld5 hHeld
        refine wpAnyH_done (by kernel_rfl) ?_ _
        go_wp2_with fail
        go_roundw
        case rel => exact ⟨i + 1, by go_num, by omega, Lib.hid HSf.out.1, Lib.hid HSf.out.2.1, HR5, Lib.hid (.inr ⟨g, rfl, HG.out.1, HGS.out, HG.out.2.2, HHf.out⟩)⟩
        case measure => simp [Go.RowKit.intOf]; omega
      · obtain rfl : i = n := by omega
        have hk : i = 0 ∨ ∃ g ys, va = some ⟨g, 0, none⟩ ∧ i ≤ vc ∧ w.heap.size + 2 ≤ g ∧ CellsAt wr g 0 ys ∧ PartsIn wr (fun k => w.heap.size + 2 ≤ k) (shiftL b ks) ys := by
          refine HH.out.imp id ?_
          rintro ⟨g, h1, h2, h3, h4, h5⟩
          obtain ⟨a1, cur, ys, a2, a3, a4, a5⟩ := h5
          rw [List.take_of_length_le (by rw [HN.out]; exact Nat.le_refl _)] at a4
          have hdrop : xs.drop (i * 5) = [] := List.drop_eq_nil_of_le (by rw [HL.out]; exact Nat.le_refl _)
          rw [hdrop, List.append_nil] at a5
          refine ⟨g, ys, h1, h2, a1, fun j u hj => ?_, PartsIn.later (fun _ _ _ => rfl) (fun _ h => h.1) _ _ a4⟩
          rw [Nat.zero_add]; unfold World.cell?; rw [a2]; exact a5 j u hj
        have HK := Lib.hid hk
        obtain ⟨⟨l0, l1, l2, l3, l4⟩, lf⟩ := cells_five HR.out
        clear hk
        go_wp2_with fail
        obtain ⟨Wf, hWf, f0, oth, hbf⟩ := set_five (.string kb) (.string tb) (.int .i64 0) (.int .i64 0) (.slice va i vc) HR.out
        rw [hWf]
        obtain ⟨⟨y0, y1, y2, y3, y4⟩, _⟩ := cells_five f0
        have hfin := HFin.out Wf va vc (HB.out.trans (hbf _ (by omega))) (HK.out.imp id (fun ⟨g, ys, h1, h2, h3, h4, h5⟩ => ⟨g, ys, h1, h2, by omega, fun j u hj => by
          have h6 := h4 j u hj
          unfold World.cell? at h6 ⊢
          rw [oth g (by omega)]; exact h6, PartsIn.later (fun k hk _ => oth k (by omega)) (fun k hk => by omega) _ _ h5⟩))
        clear hWf f0 oth hbf l0 l1 l2 l3 l4 lf k0 k1 k2 k3 k4 kf
        simp [bodyPost, results, Tryd.results9, go_sem, y0, y1, y2, y3, y4]
        exact hfin

  by_cases hf0 : f = 0
  · have he0 : ¬ e = 0 := fun h => hz ⟨hf0, h⟩
    subst hf0
    have q1 : ((e : Int) != 0) = true := by simpa using he0
    have q2 : ((e : Int) == 0) = false := by simpa using he0
    have hfe : wrap64 b = f1 ∧ wrap64 (e + b) = e1 := by rw [← HF1.out, ← HE1.out]; unfold moved; rw [if_neg hz, if_neg hz, Int.zero_add]; exact ⟨rfl, rfl⟩
    go_upto_region 4 with fail
    rw [hfe.1, hfe.2]
    obtain ⟨w1, hw1, hq1, hr1, hb1, hz1⟩ := two_new w (.cells #[.string kb, .string tb, .int .i64 f1, .int .i64 e1, .slice a n c] 24) (.cells #[.string ⟨#[]⟩, .string ⟨#[]⟩, .int .i64 0, .int .i64 0, .slice none 0 0] 24)
    rw [hw1]
    have HQ := Lib.hid hq1
    have HR := Lib.hid hr1
    have HB := Lib.hid hb1
    have HZ := Lib.hid hz1
    clear hw1 hq1 hr1 hb1 hz1 hz hfe he0 q1 q2
    have cC := clone_own (w := w1) (c := c) (HGo.out _ HB.out) HL.out HONE.out hlb
    obtain ⟨⟨k0, k1, k2, k3, k4⟩, kf⟩ := cells_five HQ.out
    go_wp2_with fail
    refine cC.mono ?_
    rintro ee w2 ⟨v', rfl, hown, hb2⟩
    obtain ⟨va, vc, rfl⟩ := owns_len hown
    have hq2 := (hb2.block _ (by have := HZ.out; omega)).trans HQ.out
    have hr2 := (hb2.block _ HZ.out).trans HR.out
    obtain ⟨⟨k0, k1, k2, k3, k4⟩, kf⟩ := cells_five hq2
    have HQ2 := Lib.hid hq2
    have HR2 := Lib.hid hr2
    have HO2 := Lib.hid hown
    have HB2 := Lib.hid (HB.out.trans (hb2.mono HB.out.size))
    have HZ2 := Lib.hid (Nat.lt_of_lt_of_le HZ.out hb2.size)
    clear cC hq2 hr2 hown hb2 HQ HR HGo
    go_upto_region 5 with fail
    have hq3 : (w2.setCell ⟨w.heap.size, 4, none⟩ (.slice va n vc)).heap[w.heap.size]? = some (.cells #[.string kb, .string tb, .int .i64 f1, .int .i64 e1, .slice va n vc] 24 (0, 0)) := Go.Joins.block_setCell HQ2.out _
    have hoth : ∀ k, k ≠ w.heap.size → (w2.setCell ⟨w.heap.size, 4, none⟩ (.slice va n vc)).heap[k]? = w2.heap[k]? := fun k hk => Below.heap_setCell _ _ _ _ hk
    have hb3 : Below w.heap.size w (w2.setCell ⟨w.heap.size, 4, none⟩ (.slice va n vc)) := HB2.out.trans ⟨rfl, rfl, rfl, by simp, fun k hk => hoth k (by omega)⟩
    have hz3 : (w2.setCell ⟨w.heap.size, 4, none⟩ (.slice va n vc)).heap.size = w2.heap.size := by simp
    generalize w2.setCell ⟨w.heap.size, 4, none⟩ (.slice va n vc) = w3 at hq3 hoth hb3 hz3 ⊢
    have hr3 := (hoth (w.heap.size + 1) (by omega)).trans HR2.out
    have hhalf : n = 0 ∨ ∃ g, va = some ⟨g, 0, none⟩ ∧ n ≤ vc ∧ g < w3.heap.size ∧ g ≠ w.heap.size + 1 ∧ Half (w.heap.size + 2) g b ks xs vc 0 w3 := by
      rcases HO2.out.2 with ⟨_, h0⟩ | ⟨g, cap, cur, hv, h1, h2, h3, _, h4, h5⟩
      · exact .inl h0
      · cases hv
        have hgl := (Array.getElem?_eq_some_iff.1 h2).1
        have hzz := HZ.out
        refine .inr ⟨g, rfl, h3, by omega, by omega, ⟨by omega, cur, [], (hoth g (by omega)).trans h2, h4, rfl, fun j u hj => ?_⟩⟩
        rw [List.nil_append, Nat.zero_mul, List.drop_zero, ← h5, List.getElem?_take] at hj
        split at hj
        · simpa using hj
        · cases hj
    have HQ3 := Lib.hid hq3
    have HR3 := Lib.hid hr3
    have HB3 := Lib.hid hb3
    have HH3 := Lib.hid hhalf
    have HZ3 : Hid (w.heap.size + 1 < w3.heap.size) := Lib.hid (by have := HZ2.out; omega)
    obtain ⟨⟨k0, k1, k2, k3, k4⟩, kf⟩ := cells_five hq3
    clear hq3 hoth hb3 hz3 hr3 hhalf HQ2 HR2 HO2 HB2 HZ2 HB HZ
    go_wp2_with fail
    clear k0 k1 k2 k3 k4 kf
    go_loopw [32] (fun iv wr => ∃ i : Nat, iv = .int .i64 i ∧ i ≤ n ∧ Hid (Below w.heap.size w wr) ∧ Hid (wr.heap[w.heap.size]? = some (.cells #[.string kb, .string tb, .int .i64 f1, .int .i64 e1, .slice va n vc] 24 (0, 0))) ∧ Hid (wr.heap[w.heap.size + 1]? = some (.cells #[.string ⟨#[]⟩, .string ⟨#[]⟩, .int .i64 0, .int .i64 0, .slice none 0 0] 24 (0, 0))) ∧
        Hid (n = 0 ∨ ∃ g, va = some ⟨g, 0, none⟩ ∧ n ≤ vc ∧ g < wr.heap.size ∧ g ≠ w.heap.size + 1 ∧ Half (w.heap.size + 2) g b ks xs vc i wr)) (fun iv _ => n - (Go.RowKit.intOf iv).toNat)
    case atStart => exact ⟨0, rfl, Nat.zero_le _, HB3, HQ3, HR3, HH3⟩
    case round =>
      obtain ⟨i, rfl, hi, HB, HQ, HR, HH⟩ := hrel
      obtain ⟨⟨k0, k1, k2, k3, k4⟩, kf⟩ := cells_five HQ.out
      clear HB3 HQ3 HR3 HH3
      by_cases hlt : i < n
      · have hll : i < ks.length := by rw [HN.out]; exact hlt
        obtain ⟨g, rfl, hnc, hgl, hg1, hH⟩ := HH.out.resolve_left (by omega)
        obtain ⟨hg, cur, ys, hcur, hcs, hys, hcy⟩ := hH
        obtain ⟨lv, hkid, hget⟩ := parts_get i hll HP.out
        obtain ⟨p, hpp⟩ : ∃ p, ks[i] = p := ⟨_, rfl⟩
        have hpm : p ∈ ks := by rw [← hpp]; exact List.getElem_mem hll
        have hts := shiftL_take_succ b hll
        rw [hpp] at hkid hget hts
        obtain ⟨kk, tt, ff, ee, kks⟩ := p
        obtain ⟨aa, cc, rfl⟩ := kids_form hkid
        have hyl : ys.length = i * 5 := by have := PartsIn.length hys; rw [shiftL_length, List.length_take] at this; omega
        have at' : ∀ j u, (five (.mk kk tt ff ee kks) (.slice aa kks.length cc))[j]? = some u → wr.cell? ⟨g, i * 5 + j, none⟩ = some u := fun j u hj => by
          have h1 := hget j u hj
          have h2 := hcy (i * 5 + j) u (by rw [List.getElem?_append_right (by omega), hyl, List.getElem?_drop, show i * 5 + (i * 5 + j - i * 5) = i * 5 + j by omega]; exact h1)
          unfold World.cell?
          rw [hcur]
          exact h2
        have j0 : wr.cell? ⟨g, i * 5, none⟩ = some (.string (bstr kk)) := at' 0 _ rfl
        have j1 := at' 1 _ rfl
        have j2 := at' 2 _ rfl
        have j3 := at' 3 _ rfl
        have j4 := at' 4 _ rfl
        have cI := fun X (hX : Below w.heap.size w X) => (HIH.out _ hpm) (.slice aa kks.length cc) R X b (kids_below hkid hX) (HWM.out _ hpm)
        simp only [arg, five] at cI
        obtain ⟨y0, hy0⟩ : ∃ x, bstr kk = x := ⟨_, rfl⟩
        obtain ⟨y1, hy1⟩ : ∃ x, bstr tt = x := ⟨_, rfl⟩
        obtain ⟨z0, hz0⟩ : ∃ x, kks.length = x := ⟨_, rfl⟩
        rw [hy0] at j0 cI
        rw [hy1] at j1 cI
        rw [hz0] at j4 cI
        obtain ⟨sq, hsq⟩ : ∃ x, shiftP b (.mk kk tt ff ee kks) = x := ⟨_, rfl⟩
        rw [hsq] at cI hts
        have HCI := Lib.hid cI
        have HHalf := Lib.hid (Half.mk hg ⟨cur, ys, hcur, hcs, hys, hcy⟩)
        have HTS := Lib.hid hts
        have HG := Lib.hid (And.intro hnc (And.intro hgl hg1))
        clear hcur hcs hys hcy hkid hget hpp hpm hts at' cI hy0 hy1 hz0 hsq hg HH hnc hgl hg1 hyl
        go_upto_region 8 with fail
        obtain ⟨w4, hw4, hq4, hb4, hz4⟩ := new_block wr (.cells #[.string y0, .string y1, .int .i64 ff, .int .i64 ee, .slice aa z0 cc] 24)
        rw [hw4]
        obtain ⟨KB, hK⟩ : ∃ KB, wr.heap.size = KB := ⟨_, rfl⟩
        have HWK := Lib.hid hK
        rw [hK] at hq4 hb4 hz4 ⊢
        have hww : w.heap.size + 1 < KB := by have := HR.out; have := (Array.getElem?_eq_some_iff.1 this).1; omega
        have hq := (hb4.block w.heap.size (by omega)).trans HQ.out
        have hr := (hb4.block (w.heap.size + 1) hww).trans HR.out
        have hww1 : w.heap.size + 2 ≤ KB := hww
        have hB4 : Below w.heap.size w w4 := HB.out.trans (hb4.mono (by omega))
        have hH4 : Half (w.heap.size + 2) g b ks xs vc i w4 := by
          obtain ⟨a1, cur, ys, a2, a3, a4, a5⟩ := HHalf.out
          exact ⟨a1, cur, ys, (hb4.block g (by have := HG.out.2.1; omega)).trans a2, a3, PartsIn.later (fun k hk hkl => hb4.block k (by omega)) (fun _ h => h) _ _ a4, a5⟩
        have HQ4 := Lib.hid hq4
        have HB4 := Lib.hid hB4
        have HH4 := Lib.hid hH4
        have HP4 := Lib.hid hq
        have HR4 := Lib.hid hr
        have HZ4 := Lib.hid hz4
        have HWW := Lib.hid hww
        clear hw4 hq4 hb4 hz4 hK hww hq hr hB4 hH4 j0 j1 j2 j3 j4 k0 k1 k2 k3 k4 kf HB HQ HR HHalf
        refine wp_region_held_drew (S := fun X => Below w.heap.size w X ∧ X.heap[w.heap.size]? = some (.cells #[.string kb, .string tb, .int .i64 f1, .int .i64 e1, .slice (some ⟨g, 0, none⟩) n vc] 24 (0, 0)) ∧ X.heap[KB]? = some (.cells #[.string y0, .string y1, .int .i64 ff, .int .i64 ee, .slice aa z0 cc] 24 (0, 0))) (by kernel_rfl) ⟨HB4.out.drew, HP4.out, HQ4.out⟩ (fun hHeld => ?_)
        have HD1 : Hid (Half (w.heap.size + 2) g b ks xs vc i w4.drew) := Lib.hid (by
          obtain ⟨a1, cur, ys, a2, a3, a4, a5⟩ := HH4.out
          exact ⟨a1, cur, ys, a2, a3, parts_below a4 ((Below.refl _ _).drew), a5⟩)
        have HD2 : Hid (w4.drew.heap[w.heap.size + 1]? = _) := Lib.hid HR4.out
        have HD3 : Hid (KB < w4.drew.heap.size) := Lib.hid HZ4.out
        obtain ⟨V, hV⟩ : ∃ V, w4.drew = V := ⟨_, rfl⟩
        rw [hV] at hHeld HD1 HD2 HD3 ⊢
        clear hV HH4 HR4 HZ4 HB4 HP4 HQ4
        refine wpAnyH_take (i := 0) (oi := ({ dst := some 37, op := Op.fieldAddr 24 (Operand.tmp 2) 4, type := 0, pos := "parse.go:36", after := #[], guard := none } : Oper)) (v := .pointer (some ⟨w.heap.size, 4, none⟩)) rfl (by kernel_rfl) (by kernel_rfl) (by kernel_rfl) (fun _ _ _ h => h) (Or.inl ⟨by rfl, fun X hX => rfl⟩) hHeld ?_
        (try simp only [Act.put, List.setIfInBounds_toArray, List.set_cons_zero, List.set_cons_succ])
        refine wpAnyH_take (i := 1) (oi := ({ dst := some 38, op := Op.load 22 (Operand.tmp 37), type := 22, pos := "parse.go:36", after := #[{ on := 0, ground := Ground.data }], guard := none } : Oper)) (v := .slice (some ⟨g, 0, none⟩) n vc) rfl (by kernel_rfl) (by kernel_rfl) (by kernel_rfl) (fun _ _ _ h => h) (Or.inl ⟨by rfl, fun X hX => by have q := (cells_five hX.2.1).1.2.2.2.2; go_simp⟩) hHeld ?_
        (try simp only [Act.put, List.setIfInBounds_toArray, List.set_cons_zero, List.set_cons_succ])
        refine wpAnyH_take (i := 2) (oi := ({ dst := some 39, op := Op.move (Operand.tmp 5), type := 3, pos := "parse.go:36", after := #[], guard := none } : Oper)) (v := .int .i64 i) rfl (by kernel_rfl) (by kernel_rfl) (by kernel_rfl) (fun _ _ _ h => h) (Or.inl ⟨by rfl, fun X hX => rfl⟩) hHeld ?_
        (try simp only [Act.put, List.setIfInBounds_toArray, List.set_cons_zero, List.set_cons_succ])
        refine wpAnyH_take (i := 3) (oi := ({ dst := some 40, op := Op.load 24 (Operand.tmp 6), type := 24, pos := "parse.go:36", after := #[], guard := none } : Oper)) (v := .agg #[.string y0, .string y1, .int .i64 ff, .int .i64 ee, .slice aa z0 cc]) rfl (by kernel_rfl) (by kernel_rfl) (by kernel_rfl) (fun _ _ _ h => h) (Or.inl ⟨by rfl, fun X hX => by obtain ⟨q0, q1, q2, q3, q4⟩ := (cells_five hX.2.2).1; go_simp⟩) hHeld ?_
        (try simp only [Act.put, List.setIfInBounds_toArray, List.set_cons_zero, List.set_cons_succ])
        refine wpAnyH_take (i := 4) (oi := ({ dst := some 41, op := Op.move (Operand.tmp 1), type := 3, pos := "parse.go:36", after := #[], guard := none } : Oper)) (v := .int .i64 b) rfl (by kernel_rfl) (by kernel_rfl) (by kernel_rfl) (fun _ _ _ h => h) (Or.inl ⟨by rfl, fun X hX => rfl⟩) hHeld ?_
        (try simp only [Act.put, List.setIfInBounds_toArray, List.set_cons_zero, List.set_cons_succ])
        refine wpAnyH_ready (rs := [5]) (by kernel_rfl) (by simp) ?_
        refine (AllReadyH.cons (o := ({ dst := some 42, op := Op.call { callee := Callee.value (Operand.func 9), args := #[Operand.tmp 40, Operand.tmp 41], argTypes := #[24, 3] }, type := 24, pos := "parse.go:36", after := #[{ on := 3, ground := Ground.data }, { on := 4, ground := Ground.data }], guard := none } : Oper)) rfl (fun K hK => ?_) AllReadyH.nil)
        refine wanted_step (by kernel_rfl) ?_
        go_simp
        go_at_call 9
        refine (HCI.out V hHeld.1).mono ?_
        rintro e' w5 ⟨lv5, rfl, hk5, hb5⟩
        have hVb : w.heap.size ≤ V.heap.size := hHeld.1.size
        have hS5 : Below w.heap.size w w5 ∧ w5.heap[w.heap.size]? = _ ∧ w5.heap[KB]? = _ := ⟨hHeld.1.trans (hb5.mono hVb), (hb5.block _ (by have := HWW.out; have := HD3.out; omega)).trans hHeld.2.1, (hb5.block _ HD3.out).trans hHeld.2.2⟩
        dsimp only
        refine hK.out _ _ (hS5) (fun hHeld5 => ?_)
        (try simp only [Act.put, List.setIfInBounds_toArray, List.set_cons_zero, List.set_cons_succ])
        clear hK K
        obtain ⟨sk, st, sf, se, sks⟩ := sq
        obtain ⟨sa, sc, rfl⟩ := kids_form hk5
        simp only [arg, five]
        refine wpAnyH_take (i := 6) (oi := ({ dst := some 43, op := Op.indexAddr 22 (Operand.tmp 38) (Operand.tmp 39), type := 0, pos := "parse.go:36", after := #[{ on := 1, ground := Ground.data }, { on := 2, ground := Ground.data }, { on := 0, ground := Ground.phase }, { on := 1, ground := Ground.phase }, { on := 2, ground := Ground.phase }, { on := 3, ground := Ground.phase }, { on := 4, ground := Ground.phase }, { on := 5, ground := Ground.phase }], guard := none } : Oper)) (v := .pointer (some ⟨g, i * 5, none⟩)) rfl (by kernel_rfl) (by kernel_rfl) (by kernel_rfl) (fun _ _ _ h => h) (Or.inl ⟨by rfl, fun X hX => (idx_row 38 39 g 0 n i vc X rfl rfl rfl hlt).trans (by rw [Nat.zero_add])⟩) hHeld5 ?_
        (try simp only [Act.put, List.setIfInBounds_toArray, List.set_cons_zero, List.set_cons_succ])
        obtain ⟨a1, cur, ys, a2, a3, a4, a5⟩ := HD1.out
        have hVg : g < V.heap.size := (Array.getElem?_eq_some_iff.1 a2).1
        have c2 := (hb5.block g hVg).trans a2
        have hnc := HG.out.1
        have hsz : i * 5 + 5 ≤ cur.size := by omega
        obtain ⟨W', cur', hW', d1, d2, d3, d4, d5, d6⟩ := set5_at (.string (bstr sk)) (.string (bstr st)) (.int .i64 sf) (.int .i64 se) (.slice sa sks.length sc) c2 hsz
        have cl : ∀ j, j < 5 → ∃ u, w5.cell? ⟨g, i * 5 + j, none⟩ = some u := fun j hj => by
          have hj5 : i * 5 + j < cur.size := Nat.lt_of_lt_of_le (Nat.add_lt_add_left hj _) hsz
          unfold World.cell?; rw [c2]; exact ⟨cur[i * 5 + j]'hj5, Array.getElem?_eq_getElem hj5⟩
        obtain ⟨u0, q0⟩ : ∃ u, w5.cell? ⟨g, i * 5, none⟩ = some u := cl 0 (by omega)
        obtain ⟨u1, q1⟩ := cl 1 (by omega)
        obtain ⟨u2, q2⟩ := cl 2 (by omega)
        obtain ⟨u3, q3⟩ := cl 3 (by omega)
        obtain ⟨u4, q4⟩ := cl 4 (by omega)
        have qf : ∀ j, w5.frozen? ⟨g, j, none⟩ = false := fun j => by simp [World.frozen?, c2]
        have hgK : g ≠ KB := by have := HG.out.2.1; have := HWK.out; omega
        have hgP : g ≠ w.heap.size := by omega
        have hgQ : g ≠ w.heap.size + 1 := HG.out.2.2
        have hSf : Below w.heap.size w W' ∧ W'.heap[w.heap.size]? = _ ∧ W'.heap[KB]? = _ := ⟨hS5.1.trans (d6 _ (by omega)), (d5 _ (fun h => hgP h.symm)).trans hS5.2.1, (d5 _ (fun h => hgK h.symm)).trans hS5.2.2⟩
        have hHf : Half (w.heap.size + 2) g b ks xs vc (i + 1) W' := by
          have hyl : ys.length = i * 5 := by have h := PartsIn.length a4; rw [shiftL_length, List.length_take] at h; have := HN.out; omega
          refine ⟨a1, cur', ys ++ five (.mk sk st sf se sks) (.slice sa sks.length sc), d1, by rw [d2]; exact a3, ?_, fun j u hj => ?_⟩
          · rw [HTS.out]
            refine PartsIn.snoc (PartsIn.later (fun k hk hkl => (d5 k hk.2).trans (hb5.block k hkl)) (fun _ h => h) _ _ a4) (KidsIn.later (fun k hk _ => d5 k (by omega)) (fun k hk => ⟨by have := hVb; have := HD3.out; have := HWW.out; omega, by omega⟩) _ _ hk5)
          · by_cases h1 : j < i * 5
            · rw [d4 j (.inl h1)]
              refine a5 j u ?_
              rw [List.append_assoc, List.getElem?_append_left (by omega)] at hj
              rw [List.getElem?_append_left (by omega)]; exact hj
            · by_cases h2 : j < i * 5 + 5
              · obtain ⟨m, rfl⟩ : ∃ m, j = i * 5 + m := ⟨j - i * 5, by omega⟩
                rw [List.append_assoc, List.getElem?_append_right (by omega), hyl, show i * 5 + m - i * 5 = m by omega, List.getElem?_append_left (by rw [five_length]; omega)] at hj
                exact d3 m u hj
              · rw [d4 j (.inr (by omega))]
                refine a5 j u ?_
                rw [List.getElem?_append_right (by rw [List.length_append, five_length]; omega), List.length_append, five_length, List.getElem?_drop] at hj
                rw [List.getElem?_append_right (by omega), List.getElem?_drop, ← hj]
                congr 1
                omega
        have hr5 := (d5 (w.heap.size + 1) (fun h => hgQ h.symm)).trans ((hb5.block _ (by have := HD3.out; have := HWW.out; omega)).trans HD2.out)
        have hgs : g < W'.heap.size := (Array.getElem?_eq_some_iff.1 d1).1
        have HSf := Lib.hid hSf
        have HHf := Lib.hid hHf
        have HR5 := Lib.hid hr5
        have HGS := Lib.hid hgs
        clear a1 a2 a3 a4 a5 c2 hsz cl d1 d2 d3 d4 d5 d6 hHf hr5 hgs hk5 hb5 hS5 hVg hgK hgP hgQ
        refine wpAnyH_ready (rs := [7]) (by kernel_rfl) (by simp) ?_
        refine (AllReadyH.cons (o := ({ dst := none, op := Op.store 24 (Operand.tmp 43) (Operand.tmp 42), type := 0, pos := "parse.go:36", after := #[{ on := 6, ground := Ground.data }, { on := 5, ground := Ground.data }, { on := 5, ground := Ground.chain }, { on := 0, ground := Ground.phase }, { on := 1, ground := Ground.phase }, { on := 2, ground := Ground.phase }, { on := 3, ground := Ground.phase }, { on := 4, ground := Ground.phase }, { on := 5, ground := Ground.phase }], guard := none } : Oper)) rfl (fun K hK => ?_) AllReadyH.nil)
        refine wanted_step (by kernel_rfl) ?_
        go_simp
        refine hK.out _ _ (HSf.out) (fun hHeld6 => ?_)
        (try simp only [Act.put, List.setIfInBounds_toArray, List.set_cons_zero, List.set_cons_succ])
        clear hK K
        clear q0 q1 q2 q3 q4 qf hW' hSf hHeld6 hHeld5 hHeld
        refine wpAnyH_done (by kernel_rfl) ?_ _
        go_wp2_with fail
        go_roundw
        case rel => exact ⟨i + 1, by go_num, by omega, Lib.hid HSf.out.1, Lib.hid HSf.out.2.1, HR5, Lib.hid (.inr ⟨g, rfl, HG.out.1, HGS.out, HG.out.2.2, HHf.out⟩)⟩
        case measure => simp [Go.RowKit.intOf]; omega
      · obtain rfl : i = n := by omega
        have hk : i = 0 ∨ ∃ g ys, va = some ⟨g, 0, none⟩ ∧ i ≤ vc ∧ w.heap.size + 2 ≤ g ∧ CellsAt wr g 0 ys ∧ PartsIn wr (fun k => w.heap.size + 2 ≤ k) (shiftL b ks) ys := by
          refine HH.out.imp id ?_
          rintro ⟨g, h1, h2, h3, h4, h5⟩
          obtain ⟨a1, cur, ys, a2, a3, a4, a5⟩ := h5
          rw [List.take_of_length_le (by rw [HN.out]; exact Nat.le_refl _)] at a4
          have hdrop : xs.drop (i * 5) = [] := List.drop_eq_nil_of_le (by rw [HL.out]; exact Nat.le_refl _)
          rw [hdrop, List.append_nil] at a5
          refine ⟨g, ys, h1, h2, a1, fun j u hj => ?_, PartsIn.later (fun _ _ _ => rfl) (fun _ h => h.1) _ _ a4⟩
          rw [Nat.zero_add]; unfold World.cell?; rw [a2]; exact a5 j u hj
        have HK := Lib.hid hk
        obtain ⟨⟨l0, l1, l2, l3, l4⟩, lf⟩ := cells_five HR.out
        clear hk
        go_wp2_with fail
        obtain ⟨Wf, hWf, f0, oth, hbf⟩ := set_five (.string kb) (.string tb) (.int .i64 f1) (.int .i64 e1) (.slice va i vc) HR.out
        rw [hWf]
        obtain ⟨⟨y0, y1, y2, y3, y4⟩, _⟩ := cells_five f0
        have hfin := HFin.out Wf va vc (HB.out.trans (hbf _ (by omega))) (HK.out.imp id (fun ⟨g, ys, h1, h2, h3, h4, h5⟩ => ⟨g, ys, h1, h2, by omega, fun j u hj => by
          have h6 := h4 j u hj
          unfold World.cell? at h6 ⊢
          rw [oth g (by omega)]; exact h6, PartsIn.later (fun k hk _ => oth k (by omega)) (fun k hk => by omega) _ _ h5⟩))
        clear hWf f0 oth hbf l0 l1 l2 l3 l4 lf k0 k1 k2 k3 k4 kf
        simp [bodyPost, results, Tryd.results9, go_sem, y0, y1, y2, y3, y4]
        exact hfin

  · have q1 : ((f : Int) != 0) = true := by simpa using hf0
    have q2 : ((f : Int) == 0) = false := by simpa using hf0
    have hfe : wrap64 (f + b) = f1 ∧ wrap64 (e + b) = e1 := by rw [← HF1.out, ← HE1.out]; unfold moved; rw [if_neg hz, if_neg hz]; exact ⟨rfl, rfl⟩
    go_upto_region 4 with fail
    rw [hfe.1, hfe.2]
    obtain ⟨w1, hw1, hq1, hr1, hb1, hz1⟩ := two_new w (.cells #[.string kb, .string tb, .int .i64 f1, .int .i64 e1, .slice a n c] 24) (.cells #[.string ⟨#[]⟩, .string ⟨#[]⟩, .int .i64 0, .int .i64 0, .slice none 0 0] 24)
    rw [hw1]
    have HQ := Lib.hid hq1
    have HR := Lib.hid hr1
    have HB := Lib.hid hb1
    have HZ := Lib.hid hz1
    clear hw1 hq1 hr1 hb1 hz1 hz hfe hf0 q1 q2
    have cC := clone_own (w := w1) (c := c) (HGo.out _ HB.out) HL.out HONE.out hlb
    obtain ⟨⟨k0, k1, k2, k3, k4⟩, kf⟩ := cells_five HQ.out
    go_wp2_with fail
    refine cC.mono ?_
    rintro ee w2 ⟨v', rfl, hown, hb2⟩
    obtain ⟨va, vc, rfl⟩ := owns_len hown
    have hq2 := (hb2.block _ (by have := HZ.out; omega)).trans HQ.out
    have hr2 := (hb2.block _ HZ.out).trans HR.out
    obtain ⟨⟨k0, k1, k2, k3, k4⟩, kf⟩ := cells_five hq2
    have HQ2 := Lib.hid hq2
    have HR2 := Lib.hid hr2
    have HO2 := Lib.hid hown
    have HB2 := Lib.hid (HB.out.trans (hb2.mono HB.out.size))
    have HZ2 := Lib.hid (Nat.lt_of_lt_of_le HZ.out hb2.size)
    clear cC hq2 hr2 hown hb2 HQ HR HGo
    go_upto_region 5 with fail
    have hq3 : (w2.setCell ⟨w.heap.size, 4, none⟩ (.slice va n vc)).heap[w.heap.size]? = some (.cells #[.string kb, .string tb, .int .i64 f1, .int .i64 e1, .slice va n vc] 24 (0, 0)) := Go.Joins.block_setCell HQ2.out _
    have hoth : ∀ k, k ≠ w.heap.size → (w2.setCell ⟨w.heap.size, 4, none⟩ (.slice va n vc)).heap[k]? = w2.heap[k]? := fun k hk => Below.heap_setCell _ _ _ _ hk
    have hb3 : Below w.heap.size w (w2.setCell ⟨w.heap.size, 4, none⟩ (.slice va n vc)) := HB2.out.trans ⟨rfl, rfl, rfl, by simp, fun k hk => hoth k (by omega)⟩
    have hz3 : (w2.setCell ⟨w.heap.size, 4, none⟩ (.slice va n vc)).heap.size = w2.heap.size := by simp
    generalize w2.setCell ⟨w.heap.size, 4, none⟩ (.slice va n vc) = w3 at hq3 hoth hb3 hz3 ⊢
    have hr3 := (hoth (w.heap.size + 1) (by omega)).trans HR2.out
    have hhalf : n = 0 ∨ ∃ g, va = some ⟨g, 0, none⟩ ∧ n ≤ vc ∧ g < w3.heap.size ∧ g ≠ w.heap.size + 1 ∧ Half (w.heap.size + 2) g b ks xs vc 0 w3 := by
      rcases HO2.out.2 with ⟨_, h0⟩ | ⟨g, cap, cur, hv, h1, h2, h3, _, h4, h5⟩
      · exact .inl h0
      · cases hv
        have hgl := (Array.getElem?_eq_some_iff.1 h2).1
        have hzz := HZ.out
        refine .inr ⟨g, rfl, h3, by omega, by omega, ⟨by omega, cur, [], (hoth g (by omega)).trans h2, h4, rfl, fun j u hj => ?_⟩⟩
        rw [List.nil_append, Nat.zero_mul, List.drop_zero, ← h5, List.getElem?_take] at hj
        split at hj
        · simpa using hj
        · cases hj
    have HQ3 := Lib.hid hq3
    have HR3 := Lib.hid hr3
    have HB3 := Lib.hid hb3
    have HH3 := Lib.hid hhalf
    have HZ3 : Hid (w.heap.size + 1 < w3.heap.size) := Lib.hid (by have := HZ2.out; omega)
    obtain ⟨⟨k0, k1, k2, k3, k4⟩, kf⟩ := cells_five hq3
    clear hq3 hoth hb3 hz3 hr3 hhalf HQ2 HR2 HO2 HB2 HZ2 HB HZ
    go_wp2_with fail
    clear k0 k1 k2 k3 k4 kf
    go_loopw [32] (fun iv wr => ∃ i : Nat, iv = .int .i64 i ∧ i ≤ n ∧ Hid (Below w.heap.size w wr) ∧ Hid (wr.heap[w.heap.size]? = some (.cells #[.string kb, .string tb, .int .i64 f1, .int .i64 e1, .slice va n vc] 24 (0, 0))) ∧ Hid (wr.heap[w.heap.size + 1]? = some (.cells #[.string ⟨#[]⟩, .string ⟨#[]⟩, .int .i64 0, .int .i64 0, .slice none 0 0] 24 (0, 0))) ∧
        Hid (n = 0 ∨ ∃ g, va = some ⟨g, 0, none⟩ ∧ n ≤ vc ∧ g < wr.heap.size ∧ g ≠ w.heap.size + 1 ∧ Half (w.heap.size + 2) g b ks xs vc i wr)) (fun iv _ => n - (Go.RowKit.intOf iv).toNat)
    case atStart => exact ⟨0, rfl, Nat.zero_le _, HB3, HQ3, HR3, HH3⟩
    case round =>
      obtain ⟨i, rfl, hi, HB, HQ, HR, HH⟩ := hrel
      obtain ⟨⟨k0, k1, k2, k3, k4⟩, kf⟩ := cells_five HQ.out
      clear HB3 HQ3 HR3 HH3
      by_cases hlt : i < n
      · have hll : i < ks.length := by rw [HN.out]; exact hlt
        obtain ⟨g, rfl, hnc, hgl, hg1, hH⟩ := HH.out.resolve_left (by omega)
        obtain ⟨hg, cur, ys, hcur, hcs, hys, hcy⟩ := hH
        obtain ⟨lv, hkid, hget⟩ := parts_get i hll HP.out
        obtain ⟨p, hpp⟩ : ∃ p, ks[i] = p := ⟨_, rfl⟩
        have hpm : p ∈ ks := by rw [← hpp]; exact List.getElem_mem hll
        have hts := shiftL_take_succ b hll
        rw [hpp] at hkid hget hts
        obtain ⟨kk, tt, ff, ee, kks⟩ := p
        obtain ⟨aa, cc, rfl⟩ := kids_form hkid
        have hyl : ys.length = i * 5 := by have := PartsIn.length hys; rw [shiftL_length, List.length_take] at this; omega
        have at' : ∀ j u, (five (.mk kk tt ff ee kks) (.slice aa kks.length cc))[j]? = some u → wr.cell? ⟨g, i * 5 + j, none⟩ = some u := fun j u hj => by
          have h1 := hget j u hj
          have h2 := hcy (i * 5 + j) u (by rw [List.getElem?_append_right (by omega), hyl, List.getElem?_drop, show i * 5 + (i * 5 + j - i * 5) = i * 5 + j by omega]; exact h1)
          unfold World.cell?
          rw [hcur]
          exact h2
        have j0 : wr.cell? ⟨g, i * 5, none⟩ = some (.string (bstr kk)) := at' 0 _ rfl
        have j1 := at' 1 _ rfl
        have j2 := at' 2 _ rfl
        have j3 := at' 3 _ rfl
        have j4 := at' 4 _ rfl
        have cI := fun X (hX : Below w.heap.size w X) => (HIH.out _ hpm) (.slice aa kks.length cc) R X b (kids_below hkid hX) (HWM.out _ hpm)
        simp only [arg, five] at cI
        obtain ⟨y0, hy0⟩ : ∃ x, bstr kk = x := ⟨_, rfl⟩
        obtain ⟨y1, hy1⟩ : ∃ x, bstr tt = x := ⟨_, rfl⟩
        obtain ⟨z0, hz0⟩ : ∃ x, kks.length = x := ⟨_, rfl⟩
        rw [hy0] at j0 cI
        rw [hy1] at j1 cI
        rw [hz0] at j4 cI
        obtain ⟨sq, hsq⟩ : ∃ x, shiftP b (.mk kk tt ff ee kks) = x := ⟨_, rfl⟩
        rw [hsq] at cI hts
        have HCI := Lib.hid cI
        have HHalf := Lib.hid (Half.mk hg ⟨cur, ys, hcur, hcs, hys, hcy⟩)
        have HTS := Lib.hid hts
        have HG := Lib.hid (And.intro hnc (And.intro hgl hg1))
        clear hcur hcs hys hcy hkid hget hpp hpm hts at' cI hy0 hy1 hz0 hsq hg HH hnc hgl hg1 hyl
        go_upto_region 8 with fail
        obtain ⟨w4, hw4, hq4, hb4, hz4⟩ := new_block wr (.cells #[.string y0, .string y1, .int .i64 ff, .int .i64 ee, .slice aa z0 cc] 24)
        rw [hw4]
        obtain ⟨KB, hK⟩ : ∃ KB, wr.heap.size = KB := ⟨_, rfl⟩
        have HWK := Lib.hid hK
        rw [hK] at hq4 hb4 hz4 ⊢
        have hww : w.heap.size + 1 < KB := by have := HR.out; have := (Array.getElem?_eq_some_iff.1 this).1; omega
        have hq := (hb4.block w.heap.size (by omega)).trans HQ.out
        have hr := (hb4.block (w.heap.size + 1) hww).trans HR.out
        have hww1 : w.heap.size + 2 ≤ KB := hww
        have hB4 : Below w.heap.size w w4 := HB.out.trans (hb4.mono (by omega))
        have hH4 : Half (w.heap.size + 2) g b ks xs vc i w4 := by
          obtain ⟨a1, cur, ys, a2, a3, a4, a5⟩ := HHalf.out
          exact ⟨a1, cur, ys, (hb4.block g (by have := HG.out.2.1; omega)).trans a2, a3, PartsIn.later (fun k hk hkl => hb4.block k (by omega)) (fun _ h => h) _ _ a4, a5⟩
        have HQ4 := Lib.hid hq4
        have HB4 := Lib.hid hB4
        have HH4 := Lib.hid hH4
        have HP4 := Lib.hid hq
        have HR4 := Lib.hid hr
        have HZ4 := Lib.hid hz4
        have HWW := Lib.hid hww
        clear hw4 hq4 hb4 hz4 hK hww hq hr hB4 hH4 j0 j1 j2 j3 j4 k0 k1 k2 k3 k4 kf HB HQ HR HHalf
        refine wp_region_held_drew (S := fun X => Below w.heap.size w X ∧ X.heap[w.heap.size]? = some (.cells #[.string kb, .string tb, .int .i64 f1, .int .i64 e1, .slice (some ⟨g, 0, none⟩) n vc] 24 (0, 0)) ∧ X.heap[KB]? = some (.cells #[.string y0, .string y1, .int .i64 ff, .int .i64 ee, .slice aa z0 cc] 24 (0, 0))) (by kernel_rfl) ⟨HB4.out.drew, HP4.out, HQ4.out⟩ (fun hHeld => ?_)
        have HD1 : Hid (Half (w.heap.size + 2) g b ks xs vc i w4.drew) := Lib.hid (by
          obtain ⟨a1, cur, ys, a2, a3, a4, a5⟩ := HH4.out
          exact ⟨a1, cur, ys, a2, a3, parts_below a4 ((Below.refl _ _).drew), a5⟩)
        have HD2 : Hid (w4.drew.heap[w.heap.size + 1]? = _) := Lib.hid HR4.out
        have HD3 : Hid (KB < w4.drew.heap.size) := Lib.hid HZ4.out
        obtain ⟨V, hV⟩ : ∃ V, w4.drew = V := ⟨_, rfl⟩
        rw [hV] at hHeld HD1 HD2 HD3 ⊢
        clear hV HH4 HR4 HZ4 HB4 HP4 HQ4
        refine wpAnyH_take (i := 0) (oi := ({ dst := some 37, op := Op.fieldAddr 24 (Operand.tmp 2) 4, type := 0, pos := "parse.go:36", after := #[], guard := none } : Oper)) (v := .pointer (some ⟨w.heap.size, 4, none⟩)) rfl (by kernel_rfl) (by kernel_rfl) (by kernel_rfl) (fun _ _ _ h => h) (Or.inl ⟨by rfl, fun X hX => rfl⟩) hHeld ?_
        (try simp only [Act.put, List.setIfInBounds_toArray, List.set_cons_zero, List.set_cons_succ])
        refine wpAnyH_take (i := 1) (oi := ({ dst := some 38, op := Op.load 22 (Operand.tmp 37), type := 22, pos := "parse.go:36", after := #[{ on := 0, ground := Ground.data }], guard := none } : Oper)) (v := .slice (some ⟨g, 0, none⟩) n vc) rfl (by kernel_rfl) (by kernel_rfl) (by kernel_rfl) (fun _ _ _ h => h) (Or.inl ⟨by rfl, fun X hX => by have q := (cells_five hX.2.1).1.2.2.2.2; go_simp⟩) hHeld ?_
        (try simp only [Act.put, List.setIfInBounds_toArray, List.set_cons_zero, List.set_cons_succ])
        refine wpAnyH_take (i := 2) (oi := ({ dst := some 39, op := Op.move (Operand.tmp 5), type := 3, pos := "parse.go:36", after := #[], guard := none } : Oper)) (v := .int .i64 i) rfl (by kernel_rfl) (by kernel_rfl) (by kernel_rfl) (fun _ _ _ h => h) (Or.inl ⟨by rfl, fun X hX => rfl⟩) hHeld ?_
        (try simp only [Act.put, List.setIfInBounds_toArray, List.set_cons_zero, List.set_cons_succ])
        refine wpAnyH_take (i := 3) (oi := ({ dst := some 40, op := Op.load 24 (Operand.tmp 6), type := 24, pos := "parse.go:36", after := #[], guard := none } : Oper)) (v := .agg #[.string y0, .string y1, .int .i64 ff, .int .i64 ee, .slice aa z0 cc]) rfl (by kernel_rfl) (by kernel_rfl) (by kernel_rfl) (fun _ _ _ h => h) (Or.inl ⟨by rfl, fun X hX => by obtain ⟨q0, q1, q2, q3, q4⟩ := (cells_five hX.2.2).1; go_simp⟩) hHeld ?_
        (try simp only [Act.put, List.setIfInBounds_toArray, List.set_cons_zero, List.set_cons_succ])
        refine wpAnyH_take (i := 4) (oi := ({ dst := some 41, op := Op.move (Operand.tmp 1), type := 3, pos := "parse.go:36", after := #[], guard := none } : Oper)) (v := .int .i64 b) rfl (by kernel_rfl) (by kernel_rfl) (by kernel_rfl) (fun _ _ _ h => h) (Or.inl ⟨by rfl, fun X hX => rfl⟩) hHeld ?_
        (try simp only [Act.put, List.setIfInBounds_toArray, List.set_cons_zero, List.set_cons_succ])
        refine wpAnyH_ready (rs := [5]) (by kernel_rfl) (by simp) ?_
        refine (AllReadyH.cons (o := ({ dst := some 42, op := Op.call { callee := Callee.value (Operand.func 9), args := #[Operand.tmp 40, Operand.tmp 41], argTypes := #[24, 3] }, type := 24, pos := "parse.go:36", after := #[{ on := 3, ground := Ground.data }, { on := 4, ground := Ground.data }], guard := none } : Oper)) rfl (fun K hK => ?_) AllReadyH.nil)
        refine wanted_step (by kernel_rfl) ?_
        go_simp
        go_at_call 9
        refine (HCI.out V hHeld.1).mono ?_
        rintro e' w5 ⟨lv5, rfl, hk5, hb5⟩
        have hVb : w.heap.size ≤ V.heap.size := hHeld.1.size
        have hS5 : Below w.heap.size w w5 ∧ w5.heap[w.heap.size]? = _ ∧ w5.heap[KB]? = _ := ⟨hHeld.1.trans (hb5.mono hVb), (hb5.block _ (by have := HWW.out; have := HD3.out; omega)).trans hHeld.2.1, (hb5.block _ HD3.out).trans hHeld.2.2⟩
        dsimp only
        refine hK.out _ _ (hS5) (fun hHeld5 => ?_)
        (try simp only [Act.put, List.setIfInBounds_toArray, List.set_cons_zero, List.set_cons_succ])
        clear hK K
        obtain ⟨sk, st, sf, se, sks⟩ := sq
        obtain ⟨sa, sc, rfl⟩ := kids_form hk5
        simp only [arg, five]
        refine wpAnyH_take (i := 6) (oi := ({ dst := some 43, op := Op.indexAddr 22 (Operand.tmp 38) (Operand.tmp 39), type := 0, pos := "parse.go:36", after := #[{ on := 1, ground := Ground.data }, { on := 2, ground := Ground.data }, { on := 0, ground := Ground.phase }, { on := 1, ground := Ground.phase }, { on := 2, ground := Ground.phase }, { on := 3, ground := Ground.phase }, { on := 4, ground := Ground.phase }, { on := 5, ground := Ground.phase }], guard := none } : Oper)) (v := .pointer (some ⟨g, i * 5, none⟩)) rfl (by kernel_rfl) (by kernel_rfl) (by kernel_rfl) (fun _ _ _ h => h) (Or.inl ⟨by rfl, fun X hX => (idx_row 38 39 g 0 n i vc X rfl rfl rfl hlt).trans (by rw [Nat.zero_add])⟩) hHeld5 ?_
        (try simp only [Act.put, List.setIfInBounds_toArray, List.set_cons_zero, List.set_cons_succ])
        obtain ⟨a1, cur, ys, a2, a3, a4, a5⟩ := HD1.out
        have hVg : g < V.heap.size := (Array.getElem?_eq_some_iff.1 a2).1
        have c2 := (hb5.block g hVg).trans a2
        have hnc := HG.out.1
        have hsz : i * 5 + 5 ≤ cur.size := by omega
        obtain ⟨W', cur', hW', d1, d2, d3, d4, d5, d6⟩ := set5_at (.string (bstr sk)) (.string (bstr st)) (.int .i64 sf) (.int .i64 se) (.slice sa sks.length sc) c2 hsz
        have cl : ∀ j, j < 5 → ∃ u, w5.cell? ⟨g, i * 5 + j, none⟩ = some u := fun j hj => by
          have hj5 : i * 5 + j < cur.size := Nat.lt_of_lt_of_le (Nat.add_lt_add_left hj _) hsz
          unfold World.cell?; rw [c2]; exact ⟨cur[i * 5 + j]'hj5, Array.getElem?_eq_getElem hj5⟩
        obtain ⟨u0, q0⟩ : ∃ u, w5.cell? ⟨g, i * 5, none⟩ = some u := cl 0 (by omega)
        obtain ⟨u1, q1⟩ := cl 1 (by omega)
        obtain ⟨u2, q2⟩ := cl 2 (by omega)
        obtain ⟨u3, q3⟩ := cl 3 (by omega)
        obtain ⟨u4, q4⟩ := cl 4 (by omega)
        have qf : ∀ j, w5.frozen? ⟨g, j, none⟩ = false := fun j => by simp [World.frozen?, c2]
        have hgK : g ≠ KB := by have := HG.out.2.1; have := HWK.out; omega
        have hgP : g ≠ w.heap.size := by omega
        have hgQ : g ≠ w.heap.size + 1 := HG.out.2.2
        have hSf : Below w.heap.size w W' ∧ W'.heap[w.heap.size]? = _ ∧ W'.heap[KB]? = _ := ⟨hS5.1.trans (d6 _ (by omega)), (d5 _ (fun h => hgP h.symm)).trans hS5.2.1, (d5 _ (fun h => hgK h.symm)).trans hS5.2.2⟩
        have hHf : Half (w.heap.size + 2) g b ks xs vc (i + 1) W' := by
          have hyl : ys.length = i * 5 := by have h := PartsIn.length a4; rw [shiftL_length, List.length_take] at h; have := HN.out; omega
          refine ⟨a1, cur', ys ++ five (.mk sk st sf se sks) (.slice sa sks.length sc), d1, by rw [d2]; exact a3, ?_, fun j u hj => ?_⟩
          · rw [HTS.out]
            refine PartsIn.snoc (PartsIn.later (fun k hk hkl => (d5 k hk.2).trans (hb5.block k hkl)) (fun _ h => h) _ _ a4) (KidsIn.later (fun k hk _ => d5 k (by omega)) (fun k hk => ⟨by have := hVb; have := HD3.out; have := HWW.out; omega, by omega⟩) _ _ hk5)
          · by_cases h1 : j < i * 5
            · rw [d4 j (.inl h1)]
              refine a5 j u ?_
              rw [List.append_assoc, List.getElem?_append_left (by omega)] at hj
              rw [List.getElem?_append_left (by omega)]; exact hj
            · by_cases h2 : j < i * 5 + 5
              · obtain ⟨m, rfl⟩ : ∃ m, j = i * 5 + m := ⟨j - i * 5, by omega⟩
                rw [List.append_assoc, List.getElem?_append_right (by omega), hyl, show i * 5 + m - i * 5 = m by omega, List.getElem?_append_left (by rw [five_length]; omega)] at hj
                exact d3 m u hj
              · rw [d4 j (.inr (by omega))]
                refine a5 j u ?_
                rw [List.getElem?_append_right (by rw [List.length_append, five_length]; omega), List.length_append, five_length, List.getElem?_drop] at hj
                rw [List.getElem?_append_right (by omega), List.getElem?_drop, ← hj]
                congr 1
                omega
        have hr5 := (d5 (w.heap.size + 1) (fun h => hgQ h.symm)).trans ((hb5.block _ (by have := HD3.out; have := HWW.out; omega)).trans HD2.out)
        have hgs : g < W'.heap.size := (Array.getElem?_eq_some_iff.1 d1).1
        have HSf := Lib.hid hSf
        have HHf := Lib.hid hHf
        have HR5 := Lib.hid hr5
        have HGS := Lib.hid hgs
        clear a1 a2 a3 a4 a5 c2 hsz cl d1 d2 d3 d4 d5 d6 hHf hr5 hgs hk5 hb5 hS5 hVg hgK hgP hgQ
        refine wpAnyH_ready (rs := [7]) (by kernel_rfl) (by simp) ?_
        refine (AllReadyH.cons (o := ({ dst := none, op := Op.store 24 (Operand.tmp 43) (Operand.tmp 42), type := 0, pos := "parse.go:36", after := #[{ on := 6, ground := Ground.data }, { on := 5, ground := Ground.data }, { on := 5, ground := Ground.chain }, { on := 0, ground := Ground.phase }, { on := 1, ground := Ground.phase }, { on := 2, ground := Ground.phase }, { on := 3, ground := Ground.phase }, { on := 4, ground := Ground.phase }, { on := 5, ground := Ground.phase }], guard := none } : Oper)) rfl (fun K hK => ?_) AllReadyH.nil)
        refine wanted_step (by kernel_rfl) ?_
        go_simp
        refine hK.out _ _ (HSf.out) (fun hHeld6 => ?_)
        (try simp only [Act.put, List.setIfInBounds_toArray, List.set_cons_zero, List.set_cons_succ])
        clear hK K
        clear q0 q1 q2 q3 q4 qf hW' hSf hHeld6 hHeld5 hHeld
        refine wpAnyH_done (by kernel_rfl) ?_ _
        go_wp2_with fail
        go_roundw
        case rel => exact ⟨i + 1, by go_num, by omega, Lib.hid HSf.out.1, Lib.hid HSf.out.2.1, HR5, Lib.hid (.inr ⟨g, rfl, HG.out.1, HGS.out, HG.out.2.2, HHf.out⟩)⟩
        case measure => simp [Go.RowKit.intOf]; omega
      · obtain rfl : i = n := by omega
        have hk : i = 0 ∨ ∃ g ys, va = some ⟨g, 0, none⟩ ∧ i ≤ vc ∧ w.heap.size + 2 ≤ g ∧ CellsAt wr g 0 ys ∧ PartsIn wr (fun k => w.heap.size + 2 ≤ k) (shiftL b ks) ys := by
          refine HH.out.imp id ?_
          rintro ⟨g, h1, h2, h3, h4, h5⟩
          obtain ⟨a1, cur, ys, a2, a3, a4, a5⟩ := h5
          rw [List.take_of_length_le (by rw [HN.out]; exact Nat.le_refl _)] at a4
          have hdrop : xs.drop (i * 5) = [] := List.drop_eq_nil_of_le (by rw [HL.out]; exact Nat.le_refl _)
          rw [hdrop, List.append_nil] at a5
          refine ⟨g, ys, h1, h2, a1, fun j u hj => ?_, PartsIn.later (fun _ _ _ => rfl) (fun _ h => h.1) _ _ a4⟩
          rw [Nat.zero_add]; unfold World.cell?; rw [a2]; exact a5 j u hj
        have HK := Lib.hid hk
        obtain ⟨⟨l0, l1, l2, l3, l4⟩, lf⟩ := cells_five HR.out
        clear hk
        go_wp2_with fail
        obtain ⟨Wf, hWf, f0, oth, hbf⟩ := set_five (.string kb) (.string tb) (.int .i64 f1) (.int .i64 e1) (.slice va i vc) HR.out
        rw [hWf]
        obtain ⟨⟨y0, y1, y2, y3, y4⟩, _⟩ := cells_five f0
        have hfin := HFin.out Wf va vc (HB.out.trans (hbf _ (by omega))) (HK.out.imp id (fun ⟨g, ys, h1, h2, h3, h4, h5⟩ => ⟨g, ys, h1, h2, by omega, fun j u hj => by
          have h6 := h4 j u hj
          unfold World.cell? at h6 ⊢
          rw [oth g (by omega)]; exact h6, PartsIn.later (fun k hk _ => oth k (by omega)) (fun k hk => by omega) _ _ h5⟩))
        clear hWf f0 oth hbf l0 l1 l2 l3 l4 lf k0 k1 k2 k3 k4 kf
        simp [bodyPost, results, Tryd.results9, go_sem, y0, y1, y2, y3, y4]
        exact hfin

end Go.Proofs.YtnjhmjkonmmomaaDoor.J
end
/- JLBlanks: The law ParseBlanks: blanks don't matter: a declaration has the same part with blanks ahead of it, moved, and with bytes 10, blanks and a comment behind; wrong ones are wrong as far behind. -/
section
namespace Go.Proofs.YtnjhmjkonmmomaaDoor.J
open Go.RowKit
open Go.Lib hiding intOf
open Go.Proofs.YtnjhmjkonmmomaaDoor.U Go.Proofs.YtnjhmjkonmmomaaDoor.S Go.Proofs.YtnjhmjkonmmomaaDoor.T
open Go.Proofs.YtnjhmjkonmmomaaDoor.K (MTab DeclPost decl_any declP zeroP withinB fromP endP kindP textP behindB)

def fifteen : ByteArray := ⟨#[32, 32, 32, 32, 32, 32, 32, 32, 32, 32, 32, 32, 32, 32, 32]⟩
def behindA : ByteArray := ⟨#[10, 10, 32, 47, 47, 32, 120]⟩
theorem and_15 (z : Int) : ∃ q : Nat, bits BinOp.and .i64 z 15 = (q : Int) ∧ q ≤ 15 := by
  refine ⟨(BitVec.ofInt 64 z &&& BitVec.ofInt 64 15).toNat, ?_, ?_⟩
  · have h : (BitVec.ofInt 64 z &&& BitVec.ofInt 64 15).toNat ≤ 15 := by
      rw [BitVec.toNat_and]
      exact Nat.le_trans Nat.and_le_right (by decide)
    show IntKind.i64.wrap (((BitVec.ofInt 64 z &&& BitVec.ofInt 64 15).toNat : Nat) : Int) = _
    exact IntWalk.i64_in _ (by omega)
  · rw [BitVec.toNat_and]
    exact Nat.le_trans Nat.and_le_right (by decide)
theorem ext_blanks {k : Nat} (hk : k ≤ 15) : fifteen.extract 0 k = repB 32 k := by
  have h : k = 0 ∨ k = 1 ∨ k = 2 ∨ k = 3 ∨ k = 4 ∨ k = 5 ∨ k = 6 ∨ k = 7 ∨ k = 8 ∨ k = 9 ∨ k = 10 ∨ k = 11 ∨ k = 12 ∨ k = 13 ∨ k = 14 ∨ k = 15 := by omega
  rcases h with rfl | rfl | rfl | rfl | rfl | rfl | rfl | rfl | rfl | rfl | rfl | rfl | rfl | rfl | rfl | rfl <;> rfl
theorem ok_all : (List.range 16).all (fun k => okB (repB 32 k)) = true := by kernel_rfl
theorem ok_blanks {k : Nat} (hk : k ≤ 15) : okB (repB 32 k) = true := List.all_eq_true.1 ok_all k (List.mem_range.2 (by omega))
theorem ok_ahead (a s : ByteArray) (h : okB a = true) : okB (a ++ s) = okB s := by
  unfold okB
  rw [items_append a s h, okL_append]
  have h : okL (items a) = true := h
  rw [h, Bool.true_and]
theorem ok_behind (s : ByteArray) : okB (s ++ behindA) = okB s := by
  by_cases h : okB s = true
  · rw [h]; exact okB_append s behindA h (by kernel_rfl)
  · have h1 : okB s = false := by simpa using h
    rw [h1]
    by_cases h2 : okB (s ++ behindA) = true
    · refine absurd ?_ h
      have hg : (s ++ behindA).get! s.size = 10 := by
        have := get!_right s behindA 0
        rw [Nat.add_zero] at this
        rw [this]; rfl
      have hz : s.size < (s ++ behindA).size := by
        rw [size_append]; show s.size < s.size + 7; omega
      obtain ⟨⟨l1, l2, h3, h4⟩, _⟩ := L.bnd_low h2 hz (by rw [hg]; decide)
      exact (L.items_parts s behindA l1 l2 h2 h3 h4).2.2.1
    · simpa using h2
theorem tl_app (a b : ByteArray) : (a ++ b).toList = a.toList ++ b.toList := by
  rw [ByteArray.toList_eq, ByteArray.toList_eq, ByteArray.toList_eq]; simp
theorem ahead_told (s : ByteArray) {k : Nat} (hk : k ≤ 15) : declP (scanB (okB (repB 32 k ++ s)) (repB 32 k ++ s).toList) (repB 32 k ++ s).size = declP (scanB (okB s) (List.replicate k 32 ++ s.toList)) (List.replicate k 32 ++ s.toList).length := by
  have h1 : (repB 32 k).toList = List.replicate k 32 := by rw [ByteArray.toList_eq]; rfl
  rw [ok_ahead _ s (ok_blanks hk), tl_app, h1]
  congr 1
  rw [size_append, repB_size, List.length_append, List.length_replicate, tl_len]
theorem behind_told (s : ByteArray) : declP (scanB (okB (s ++ behindA)) (s ++ behindA).toList) (s ++ behindA).size = declP (scanB (okB s) (s.toList ++ behindB)) (s.toList ++ behindB).length := by
  have h1 : behindA.toList = behindB := by rw [ByteArray.toList_eq]; rfl
  rw [ok_behind, tl_app, h1]
  congr 1
  rw [size_append, List.length_append, tl_len]; rfl
set_option maxHeartbeats 8000000 in
set_option maxRecDepth 20000 in
theorem blanks_law (s : ByteArray) (z : Int) (w : World) (hT : Tabs w) (hG : MTab w) : Calls Tryd.prog 5 #[.string s, .int .i64 z] w fun e w' => e = .returned (.bool true) ∧ Below w.heap.size w w' := by
  have HT := Lib.hid hT
  have HG := Lib.hid hG
  obtain ⟨sz, hsz⟩ : ∃ z, s.size = z := ⟨_, rfl⟩
  have HSZ := Lib.hid hsz
  by_cases hl : 500 < sz
  · have cA := alive_any w hT hG
    clear hT hG
    go_enter Tryd.func5, Tryd.ntmps5
    go_wp2_with fail
    refine cA.mono ?_
    rintro e w1 ⟨rfl, hb1⟩
    have HB := Lib.hid hb1
    clear cA hb1
    go_wp2_with fail
    go_ret
    exact ⟨rfl, HB.out⟩
  obtain ⟨k, hk, hk15⟩ := and_15 z
  have he := ext_blanks hk15
  unfold fifteen at he
  have c1 := decl_any s w (by omega) hT hG
  have hzA : (repB 32 k ++ s).size = k + sz := by rw [size_append, repB_size, hsz]
  have hzB : (s ++ behindA).size = sz + 7 := by rw [size_append, hsz]; rfl
  have HZA := Lib.hid hzA
  have HZB := Lib.hid hzB
  clear hT hG
  go_enter Tryd.func5, Tryd.ntmps5
  have zr := repB_size 32 k
  have hk0 : (0 : Int) ≤ (k : Int) := by omega
  have hk1 : (k : Int) ≤ 15 := by omega
  have hkn : k ≤ 15 := hk15
  go_wp2_with fail
  refine c1.mono ?_
  rintro e' w1 ⟨p, at1, er, lv1, hd1, rfl, hp1, hb1, hw1⟩
  have HD1 := Lib.hid hd1
  have HB1 := Lib.hid hb1
  have HP1 := Lib.hid hp1
  have HW1 := Lib.hid hw1
  obtain ⟨kp, tp, f, e, ks⟩ := p
  obtain ⟨a, c, rfl⟩ := kids_form hp1
  simp only [arg, five]
  obtain ⟨kb, hkb⟩ : ∃ x, bstr kp = x := ⟨_, rfl⟩
  obtain ⟨tb, htb⟩ : ∃ x, bstr tp = x := ⟨_, rfl⟩
  obtain ⟨n, hn⟩ : ∃ n, ks.length = n := ⟨_, rfl⟩
  have HKB := Lib.hid hkb
  have HTB := Lib.hid htb
  have HN := Lib.hid hn
  rw [hkb, htb, hn]
  clear c1 hd1 hb1 hp1 hw1 hkb htb hn
  go_upto_region 6 with fail
  obtain ⟨w2, hw2, hq2, hb2, hz2⟩ := new_block w1 (.cells #[.string kb, .string tb, .int .i64 f, .int .i64 e, .slice a n c] 24)
  rw [hw2]
  obtain ⟨P, hP⟩ : ∃ P, w1.heap.size = P := ⟨_, rfl⟩
  have HPE := Lib.hid hP
  rw [hP] at hq2 hb2 hz2 ⊢
  have HQ2 := Lib.hid hq2
  have HB12 := Lib.hid (show Below w1.heap.size w1 w2 by rw [hP]; exact hb2)
  have HB2 := Lib.hid (HB1.out.trans (HB12.out.mono HB1.out.size))
  have HZ2 := Lib.hid hz2
  have c2 := decl_any (repB 32 k ++ s) w2 (by rw [HZA.out]; omega) (HT.out.later HB2.out) (HG.out.later HB2.out)
  clear hw2 hq2 hb2 hz2 hP
  go_wp2_with fail
  refine c2.mono ?_
  rintro e' w3 ⟨q, at2, er2, lv2, hd2, rfl, hp2, hb3, hwt2⟩
  have HD2 := Lib.hid hd2
  have HB3 := Lib.hid (HB2.out.trans (hb3.mono HB2.out.size))
  have HB13 := Lib.hid (HB12.out.trans (hb3.mono HB12.out.size))
  have HQ3 := Lib.hid ((hb3.block _ HZ2.out).trans HQ2.out)
  have HZ3 := Lib.hid (Nat.lt_of_lt_of_le HZ2.out hb3.size)
  have HP2 := Lib.hid hp2
  have HW2 := Lib.hid hwt2
  obtain ⟨kq, tq, f2, e2, ks2⟩ := q
  obtain ⟨a2, c2', rfl⟩ := kids_form hp2
  simp only [arg, five]
  obtain ⟨kb2, hkb2⟩ : ∃ x, bstr kq = x := ⟨_, rfl⟩
  obtain ⟨tb2, htb2⟩ : ∃ x, bstr tq = x := ⟨_, rfl⟩
  obtain ⟨n2, hn2⟩ : ∃ n, ks2.length = n := ⟨_, rfl⟩
  have HKB2 := Lib.hid hkb2
  have HTB2 := Lib.hid htb2
  have HN2 := Lib.hid hn2
  rw [hkb2, htb2, hn2]
  clear c2 hd2 hb3 hp2 hwt2 hkb2 htb2 hn2 hzA
  go_upto_region 7 with fail
  obtain ⟨w4, hw4, hq4, hb4, hz4⟩ := new_block w3 (.cells #[.string kb2, .string tb2, .int .i64 f2, .int .i64 e2, .slice a2 n2 c2'] 24)
  rw [hw4]
  obtain ⟨Q, hQ⟩ : ∃ Q, w3.heap.size = Q := ⟨_, rfl⟩
  have HQE := Lib.hid hQ
  rw [hQ] at hq4 hb4 hz4 ⊢
  have HB34 := Lib.hid (show Below w3.heap.size w3 w4 by rw [hQ]; exact hb4)
  have HR4 := Lib.hid hq4
  have HQ4 := Lib.hid ((hb4.block _ (by rw [← hQ]; exact HZ3.out)).trans HQ3.out)
  have HB4 := Lib.hid (HB3.out.trans (HB34.out.mono HB3.out.size))
  have HB14 := Lib.hid (HB13.out.trans (HB34.out.mono HB13.out.size))
  have HZ4 := Lib.hid hz4
  have HZP4 := Lib.hid (Nat.lt_of_lt_of_le HZ3.out HB34.out.size)
  have c3 := decl_any (s ++ behindA) w4 (by rw [HZB.out]; omega) (HT.out.later HB4.out) (HG.out.later HB4.out)
  unfold behindA at c3
  clear hw4 hq4 hb4 hz4 hQ hzB
  go_wp2_with fail
  refine c3.mono ?_
  rintro e' w5 ⟨r, at3, er3, lv3, hd3, rfl, hp3, hb5, hwt3⟩
  have hd1' : declP (scanB (okB s) s.toList) s.toList.length = (.mk kp tp f e ks, at1, er) := by rw [tl_len]; exact HD1.out
  have hlaw := K.blanks_decl (okB s) s.toList k _ _ _ _ _ _ _ _ _ hd1' ((ahead_told s hk15).symm.trans HD2.out) ((behind_told s).symm.trans hd3)
  rw [tl_len, HSZ.out] at hlaw
  have HLaw := Lib.hid hlaw
  have HB5 := Lib.hid (HB4.out.trans (hb5.mono HB4.out.size))
  have HB15 := Lib.hid (HB14.out.trans (hb5.mono HB14.out.size))
  have HB35 := Lib.hid (HB34.out.trans (hb5.mono HB34.out.size))
  have HQ5 := Lib.hid ((hb5.block _ HZP4.out).trans HQ4.out)
  have HR5 := Lib.hid ((hb5.block _ HZ4.out).trans HR4.out)
  have HZ5 := Lib.hid (Nat.lt_of_lt_of_le HZ4.out hb5.size)
  have HZP5 := Lib.hid (Nat.lt_of_lt_of_le HZP4.out hb5.size)
  have HP3 := Lib.hid hp3
  have HW3 := Lib.hid hwt3
  obtain ⟨kr, tr, f3, e3, ks3⟩ := r
  obtain ⟨a3, c3', rfl⟩ := kids_form hp3
  simp only [arg, five]
  obtain ⟨kb3, hkb3⟩ : ∃ x, bstr kr = x := ⟨_, rfl⟩
  obtain ⟨tb3, htb3⟩ : ∃ x, bstr tr = x := ⟨_, rfl⟩
  obtain ⟨n3, hn3⟩ : ∃ n, ks3.length = n := ⟨_, rfl⟩
  have HKB3 := Lib.hid hkb3
  have HTB3 := Lib.hid htb3
  have HN3 := Lib.hid hn3
  rw [hkb3, htb3, hn3]
  clear c3 hd3 hb5 hp3 hwt3 hkb3 htb3 hn3 hlaw he
  have HD1' := Lib.hid hd1'
  clear hd1'
  go_upto_region 8 with fail
  obtain ⟨w6, hw6, hq6, hb6, hz6⟩ := new_block w5 (.cells #[.string kb3, .string tb3, .int .i64 f3, .int .i64 e3, .slice a3 n3 c3'] 24)
  rw [hw6]
  obtain ⟨C, hC⟩ : ∃ C, w5.heap.size = C := ⟨_, rfl⟩
  have HCE := Lib.hid hC
  rw [hC] at hq6 hb6 hz6 ⊢
  have HB56 := Lib.hid (show Below w5.heap.size w5 w6 by rw [hC]; exact hb6)
  have HS6 := Lib.hid hq6
  have HQ6 := Lib.hid ((HB56.out.block _ HZP5.out).trans HQ5.out)
  have HR6 := Lib.hid ((HB56.out.block _ HZ5.out).trans HR5.out)
  have HB6 := Lib.hid (HB5.out.trans (HB56.out.mono HB5.out.size))
  have HB16 := Lib.hid (HB15.out.trans (HB56.out.mono HB15.out.size))
  have HB36 := Lib.hid (HB35.out.trans (HB56.out.mono HB35.out.size))
  have HZ6 := Lib.hid hz6
  have HZR6 := Lib.hid (Nat.lt_of_lt_of_le HZ5.out HB56.out.size)
  have HZP6 := Lib.hid (Nat.lt_of_lt_of_le HZP5.out HB56.out.size)
  clear hw6 hq6 hb6 hz6 hC
  by_cases her : er = 0
  case neg =>
    obtain ⟨h1, h2, h3⟩ := HLaw.out.1 her
    subst h1
    subst h3
    have cA := alive_any w6 (HT.out.later HB6.out) (HG.out.later HB6.out)
    have q1 : ((er3 : Int) != 0) = true := by simpa using her
    have q2 : ((er3 : Int) == 0) = false := by simpa using her
    by_cases h101 : er3 = 101
    · subst h101
      have h2 := h2 rfl
      have hat : IntKind.i64.wrap (at1 + (k : Int)) = at2 ∧ wrap64 (at1 + (k : Int)) = at2 := by
        have hb : -9223372036854775808 ≤ at1 + (k : Int) ∧ at1 + (k : Int) < 9223372036854775808 := by
          have h4 := (K.within_decl (okB s) s.toList _ _ _ HD1'.out).1 (by decide)
          rw [tl_len, HSZ.out] at h4
          have := h4.2.1; have := h4.2.2.1; omega
        exact ⟨(IntWalk.i64_in _ (by omega)).trans h2.symm, (IntWalk.wrap64_in _ (by omega)).trans h2.symm⟩
      obtain ⟨ha1, ha2⟩ := hat
      clear h2
      go_wp2_with fail
      refine cA.mono ?_
      rintro e' w7 ⟨rfl, hb7⟩
      have HB7 := Lib.hid (HB6.out.trans (hb7.mono HB6.out.size))
      clear cA hb7
      go_wp2_with fail
      go_ret
      exact ⟨rfl, HB7.out⟩
    · have q3 : ((er3 : Int) != 101) = true := by simpa using h101
      have q4 : ((er3 : Int) == 101) = false := by simpa using h101
      clear h2
      go_wp2_with fail
      refine cA.mono ?_
      rintro e' w7 ⟨rfl, hb7⟩
      have HB7 := Lib.hid (HB6.out.trans (hb7.mono HB6.out.size))
      clear cA hb7
      go_wp2_with fail
      go_ret
      exact ⟨rfl, HB7.out⟩
  obtain ⟨rfl, rfl, hpr, hwi, hki, hte, hfr, hen, hep, hde⟩ := HLaw.out.2 her
  subst her
  cases hpr
  have hki' : kp = kq := hki.symm
  have hte' : tp = tq := hte.symm
  clear hki hte
  subst hki'
  subst hte'
  obtain rfl : kb = kb2 := HKB.out.symm.trans HKB2.out
  obtain rfl : tb = tb2 := HTB.out.symm.trans HTB2.out
  obtain rfl : kb = kb3 := HKB.out.symm.trans HKB3.out
  obtain rfl : tb = tb3 := HTB.out.symm.trans HTB3.out
  obtain rfl : n = n3 := HN.out.symm.trans HN3.out
  have hfr : f2 = f + k := hfr
  have hen : e2 = e + k := hen
  have hep : 0 < e := hep
  have hwq := hwi
  unfold withinB at hwq
  have hbnd : ¬ (f2 < (k : Int) ∨ (k : Int) + sz < e2 ∨ e2 < f2) := fun h => by rw [if_pos h] at hwq; cases hwq
  have hmv : moved f e f k = f2 ∧ moved f e e k = e2 := by
    unfold moved
    rw [if_neg (by omega), if_neg (by omega), hfr, hen]
    exact ⟨IntWalk.wrap64_in _ (by omega), IntWalk.wrap64_in _ (by omega)⟩
  have hto : IntKind.i64.wrap ((k : Int) + (sz : Int)) = (k : Int) + sz := IntWalk.i64_in _ (by omega)
  have hto2 : wrap64 ((k : Int) + (sz : Int)) = (k : Int) + sz := IntWalk.wrap64_in _ (by omega)
  have cSh : ∀ X, Below w1.heap.size w1 X → Calls Tryd.prog 9 #[.agg #[.string kb, .string tb, .int .i64 f, .int .i64 e, .slice a n c], .int .i64 k] X fun en X' => ∃ a' n' c', en = .returned (.agg #[.string kb, .string tb, .int .i64 f2, .int .i64 e2, .slice a' n' c']) ∧ Below X.heap.size X X' := fun X hX => by
    have h := shift_any (.mk kp tp f e ks) (.slice a ks.length c) _ X k (kids_below HP1.out hX) (by have := HW1.out; omega)
    simp only [arg, five] at h
    rw [HKB.out, HTB.out, HN.out] at h
    refine h.mono ?_
    rintro en X' ⟨lv, rfl, h1, h2⟩
    rw [shiftP, hmv.1, hmv.2] at h1 ⊢
    obtain ⟨a', c', rfl⟩ := kids_form h1
    exact ⟨a', _, c', by rw [arg, five, HKB.out, HTB.out], h2⟩
  have cWi : ∀ X, Below w3.heap.size w3 X → Calls Tryd.prog 17 #[.agg #[.string kb, .string tb, .int .i64 f2, .int .i64 e2, .slice a2 n2 c2'], .int .i64 k, .int .i64 ((k : Int) + sz)] X fun en X' => en = .returned (.bool true) ∧ Below X.heap.size X X' := fun X hX => by
    have h := within_any (.mk kp tp f2 e2 ks2) (.slice a2 ks2.length c2') _ X k ((k : Int) + sz) (kids_below HP2.out hX) (by have := HW2.out; omega)
    rw [hwi] at h
    simp only [arg, five] at h
    rw [HKB.out, HTB.out, HN2.out] at h
    exact h
  have cSa : ∀ X, Below w1.heap.size w1 X → Below w5.heap.size w5 X → Calls Tryd.prog 11 #[.agg #[.string kb, .string tb, .int .i64 f, .int .i64 e, .slice a n c], .agg #[.string kb, .string tb, .int .i64 f, .int .i64 e, .slice a3 n c3']] X fun en X' => en = .returned (.bool true) ∧ Below X.heap.size X X' := fun X hX hY => by
    have h := same_any (.mk kp tp f e ks) (.mk kp tp f e ks) (.slice a ks.length c) (.slice a3 ks.length c3') _ _ X (kids_below HP1.out hX) (kids_below HP3.out hY) (by have := HW1.out; omega) (by have := HW1.out; omega)
    rw [same_self] at h
    simp only [arg, five] at h
    rw [HKB.out, HTB.out, HN.out] at h
    exact h
  obtain ⟨D, hD⟩ : ∃ D, deep (.mk kp tp f e ks) = D := ⟨_, rfl⟩
  have cDp : ∀ X, Below w1.heap.size w1 X → Calls Tryd.prog 14 #[.agg #[.string kb, .string tb, .int .i64 f, .int .i64 e, .slice a n c]] X fun en X' => en = .returned (.int .i64 D) ∧ Below X.heap.size X X' := fun X hX => by
    have h := deep_any (.mk kp tp f e ks) (lv := .slice a ks.length c) (kids_below HP1.out hX) (by have := HW1.out; omega)
    simp only [arg, five] at h
    rw [HKB.out, HTB.out, HN.out, hD] at h
    exact h
  have cDq : ∀ X, Below w3.heap.size w3 X → Calls Tryd.prog 14 #[.agg #[.string kb, .string tb, .int .i64 f2, .int .i64 e2, .slice a2 n2 c2']] X fun en X' => en = .returned (.int .i64 D) ∧ Below X.heap.size X X' := fun X hX => by
    have h := deep_any (.mk kp tp f2 e2 ks2) (lv := .slice a2 ks2.length c2') (kids_below HP2.out hX) (by have := HW2.out; omega)
    simp only [arg, five] at h
    rw [HKB.out, HTB.out, HN2.out, hde, hD] at h
    exact h
  have HDp := Lib.hid cDp
  have HDq := Lib.hid cDq
  have HWi := Lib.hid cWi
  have HSa := Lib.hid cSa
  have cSh6 := cSh w6 HB16.out
  obtain ⟨⟨q0, q1, q2, q3, q4⟩, qf⟩ := cells_five HQ6.out
  clear cSh cWi cSa cDp cDq hwi hwq hbnd hmv hfr hen hep hde hD HP1 HP2 HP3 HLaw HD1 HD2 HD1'
  go_wp2_with fail
  refine cSh6.mono ?_
  rintro e' w7 ⟨a4, n4, c4, rfl, hb7⟩
  have HB67 := Lib.hid hb7
  clear cSh6 hb7 q0 q1 q2 q3 q4 qf
  go_upto_region 11 with fail
  obtain ⟨w8, hw8, hq8, hb8, hz8⟩ := new_block w7 (.cells #[.string kb, .string tb, .int .i64 f2, .int .i64 e2, .slice a4 n4 c4] 24)
  rw [hw8]
  obtain ⟨B, hB⟩ : ∃ B, w7.heap.size = B := ⟨_, rfl⟩
  have HB68 := Lib.hid (HB67.out.trans (hb8.mono HB67.out.size))
  rw [hB] at hq8 hz8 ⊢
  have HX8 := Lib.hid hq8
  have HZ8 := Lib.hid hz8
  have hr8 := (HB68.out.block _ HZR6.out).trans HR6.out
  have cWi8 := HWi.out w8 (HB36.out.trans (HB68.out.mono HB36.out.size))
  obtain ⟨⟨q0, q1, q2, q3, q4⟩, qf⟩ := cells_five hr8
  clear hw8 hq8 hb8 hz8 hB hr8
  go_wp2_with fail
  refine cWi8.mono ?_
  rintro e' w9 ⟨rfl, hb9⟩
  have HB69 := Lib.hid (HB68.out.trans (hb9.mono HB68.out.size))
  have HX9 := Lib.hid ((hb9.block _ HZ8.out).trans HX8.out)
  have HZ9 := Lib.hid (Nat.lt_of_lt_of_le HZ8.out hb9.size)
  have hp9 := (HB69.out.block _ HZP6.out).trans HQ6.out
  have hs9 := (HB69.out.block _ HZ6.out).trans HS6.out
  have cSa9 := HSa.out w9 (HB16.out.trans (HB69.out.mono HB16.out.size)) (HB56.out.trans (HB69.out.mono HB56.out.size))
  obtain ⟨⟨q0, q1, q2, q3, q4⟩, qf⟩ := cells_five hp9
  obtain ⟨⟨r0, r1, r2, r3, r4⟩, rf⟩ := cells_five hs9
  clear cWi8 hb9 hp9 hs9
  go_wp2_with fail
  refine cSa9.mono ?_
  rintro e' wr ⟨rfl, hb10⟩
  have HBr := Lib.hid (HB69.out.trans (hb10.mono HB69.out.size))
  have hx := (hb10.block _ HZ9.out).trans HX9.out
  have hp := (HBr.out.block _ HZP6.out).trans HQ6.out
  have hq := (HBr.out.block _ HZR6.out).trans HR6.out
  have HX := Lib.hid hx
  have HP := Lib.hid hp
  have HQ := Lib.hid hq
  clear cSa9 hb10 q0 q1 q2 q3 q4 qf r0 r1 r2 r3 r4 rf
  have hS : ∀ X, Below wr.heap.size wr X → Below wr.heap.size wr X ∧ X.cell? ⟨P, 0, none⟩ = some (.string kb) ∧ X.cell? ⟨P, 1, none⟩ = some (.string tb) ∧ X.cell? ⟨P, 2, none⟩ = some (.int .i64 f) ∧ X.cell? ⟨P, 3, none⟩ = some (.int .i64 e) ∧ X.cell? ⟨P, 4, none⟩ = some (.slice a n c) ∧ X.cell? ⟨Q, 0, none⟩ = some (.string kb) ∧ X.cell? ⟨Q, 1, none⟩ = some (.string tb) ∧ X.cell? ⟨Q, 2, none⟩ = some (.int .i64 f2) ∧ X.cell? ⟨Q, 3, none⟩ = some (.int .i64 e2) ∧ X.cell? ⟨Q, 4, none⟩ = some (.slice a2 n2 c2') ∧ X.cell? ⟨B, 2, none⟩ = some (.int .i64 f2) ∧ X.cell? ⟨B, 3, none⟩ = some (.int .i64 e2) := fun X h => by
    obtain ⟨⟨p0, p1, p2, p3, p4⟩, _⟩ := cells_five ((h.block _ (Array.getElem?_eq_some_iff.1 hp).1).trans HP.out)
    obtain ⟨⟨q0, q1, q2, q3, q4⟩, _⟩ := cells_five ((h.block _ (Array.getElem?_eq_some_iff.1 hq).1).trans HQ.out)
    obtain ⟨⟨x0, x1, x2, x3, x4⟩, _⟩ := cells_five ((h.block _ (Array.getElem?_eq_some_iff.1 hx).1).trans HX.out)
    exact ⟨h, p0, p1, p2, p3, p4, q0, q1, q2, q3, q4, x2, x3⟩
  have b1 : Below w.heap.size w wr := HB6.out.trans (HBr.out.mono HB6.out.size)
  have b2 : Below w1.heap.size w1 wr := HB16.out.trans (HBr.out.mono HB16.out.size)
  have b3 : Below w3.heap.size w3 wr := HB36.out.trans (HBr.out.mono HB36.out.size)
  obtain ⟨d0, d1, d2, d3, d4, d5, d6, d7, d8, d9, d10, d11, d12⟩ := hS wr.drew (Below.refl _ _).drew
  have cAl : ∀ X, (Below wr.heap.size wr X ∧ X.cell? ⟨P, 0, none⟩ = some (.string kb) ∧ X.cell? ⟨P, 1, none⟩ = some (.string tb) ∧ X.cell? ⟨P, 2, none⟩ = some (.int .i64 f) ∧ X.cell? ⟨P, 3, none⟩ = some (.int .i64 e) ∧ X.cell? ⟨P, 4, none⟩ = some (.slice a n c) ∧ X.cell? ⟨Q, 0, none⟩ = some (.string kb) ∧ X.cell? ⟨Q, 1, none⟩ = some (.string tb) ∧ X.cell? ⟨Q, 2, none⟩ = some (.int .i64 f2) ∧ X.cell? ⟨Q, 3, none⟩ = some (.int .i64 e2) ∧ X.cell? ⟨Q, 4, none⟩ = some (.slice a2 n2 c2') ∧ X.cell? ⟨B, 2, none⟩ = some (.int .i64 f2) ∧ X.cell? ⟨B, 3, none⟩ = some (.int .i64 e2)) → Calls Tryd.prog 8 #[] X fun en w' => en = .returned (.bool true) ∧ Below wr.heap.size wr w' ∧ w'.cell? ⟨P, 0, none⟩ = some (.string kb) ∧ w'.cell? ⟨P, 1, none⟩ = some (.string tb) ∧ w'.cell? ⟨P, 2, none⟩ = some (.int .i64 f) ∧ w'.cell? ⟨P, 3, none⟩ = some (.int .i64 e) ∧ w'.cell? ⟨P, 4, none⟩ = some (.slice a n c) ∧ w'.cell? ⟨Q, 0, none⟩ = some (.string kb) ∧ w'.cell? ⟨Q, 1, none⟩ = some (.string tb) ∧ w'.cell? ⟨Q, 2, none⟩ = some (.int .i64 f2) ∧ w'.cell? ⟨Q, 3, none⟩ = some (.int .i64 e2) ∧ w'.cell? ⟨Q, 4, none⟩ = some (.slice a2 n2 c2') ∧ w'.cell? ⟨B, 2, none⟩ = some (.int .i64 f2) ∧ w'.cell? ⟨B, 3, none⟩ = some (.int .i64 e2) := fun X hX => (alive_any X (HT.out.later (b1.trans (hX.1.mono b1.size))) (HG.out.later (b1.trans (hX.1.mono b1.size)))).mono (fun en w' h => ⟨h.1, hS w' (hX.1.trans (h.2.mono hX.1.size))⟩)
  have cD1 : ∀ X, (Below wr.heap.size wr X ∧ X.cell? ⟨P, 0, none⟩ = some (.string kb) ∧ X.cell? ⟨P, 1, none⟩ = some (.string tb) ∧ X.cell? ⟨P, 2, none⟩ = some (.int .i64 f) ∧ X.cell? ⟨P, 3, none⟩ = some (.int .i64 e) ∧ X.cell? ⟨P, 4, none⟩ = some (.slice a n c) ∧ X.cell? ⟨Q, 0, none⟩ = some (.string kb) ∧ X.cell? ⟨Q, 1, none⟩ = some (.string tb) ∧ X.cell? ⟨Q, 2, none⟩ = some (.int .i64 f2) ∧ X.cell? ⟨Q, 3, none⟩ = some (.int .i64 e2) ∧ X.cell? ⟨Q, 4, none⟩ = some (.slice a2 n2 c2') ∧ X.cell? ⟨B, 2, none⟩ = some (.int .i64 f2) ∧ X.cell? ⟨B, 3, none⟩ = some (.int .i64 e2)) → Calls Tryd.prog 14 #[.agg #[.string kb, .string tb, .int .i64 f, .int .i64 e, .slice a n c]] X fun en w' => en = .returned (.int .i64 D) ∧ Below wr.heap.size wr w' ∧ w'.cell? ⟨P, 0, none⟩ = some (.string kb) ∧ w'.cell? ⟨P, 1, none⟩ = some (.string tb) ∧ w'.cell? ⟨P, 2, none⟩ = some (.int .i64 f) ∧ w'.cell? ⟨P, 3, none⟩ = some (.int .i64 e) ∧ w'.cell? ⟨P, 4, none⟩ = some (.slice a n c) ∧ w'.cell? ⟨Q, 0, none⟩ = some (.string kb) ∧ w'.cell? ⟨Q, 1, none⟩ = some (.string tb) ∧ w'.cell? ⟨Q, 2, none⟩ = some (.int .i64 f2) ∧ w'.cell? ⟨Q, 3, none⟩ = some (.int .i64 e2) ∧ w'.cell? ⟨Q, 4, none⟩ = some (.slice a2 n2 c2') ∧ w'.cell? ⟨B, 2, none⟩ = some (.int .i64 f2) ∧ w'.cell? ⟨B, 3, none⟩ = some (.int .i64 e2) := fun X hX => (HDp.out X (b2.trans (hX.1.mono b2.size))).mono (fun en w' h => ⟨h.1, hS w' (hX.1.trans (h.2.mono hX.1.size))⟩)
  have cD2 : ∀ X, (Below wr.heap.size wr X ∧ X.cell? ⟨P, 0, none⟩ = some (.string kb) ∧ X.cell? ⟨P, 1, none⟩ = some (.string tb) ∧ X.cell? ⟨P, 2, none⟩ = some (.int .i64 f) ∧ X.cell? ⟨P, 3, none⟩ = some (.int .i64 e) ∧ X.cell? ⟨P, 4, none⟩ = some (.slice a n c) ∧ X.cell? ⟨Q, 0, none⟩ = some (.string kb) ∧ X.cell? ⟨Q, 1, none⟩ = some (.string tb) ∧ X.cell? ⟨Q, 2, none⟩ = some (.int .i64 f2) ∧ X.cell? ⟨Q, 3, none⟩ = some (.int .i64 e2) ∧ X.cell? ⟨Q, 4, none⟩ = some (.slice a2 n2 c2') ∧ X.cell? ⟨B, 2, none⟩ = some (.int .i64 f2) ∧ X.cell? ⟨B, 3, none⟩ = some (.int .i64 e2)) → Calls Tryd.prog 14 #[.agg #[.string kb, .string tb, .int .i64 f2, .int .i64 e2, .slice a2 n2 c2']] X fun en w' => en = .returned (.int .i64 D) ∧ Below wr.heap.size wr w' ∧ w'.cell? ⟨P, 0, none⟩ = some (.string kb) ∧ w'.cell? ⟨P, 1, none⟩ = some (.string tb) ∧ w'.cell? ⟨P, 2, none⟩ = some (.int .i64 f) ∧ w'.cell? ⟨P, 3, none⟩ = some (.int .i64 e) ∧ w'.cell? ⟨P, 4, none⟩ = some (.slice a n c) ∧ w'.cell? ⟨Q, 0, none⟩ = some (.string kb) ∧ w'.cell? ⟨Q, 1, none⟩ = some (.string tb) ∧ w'.cell? ⟨Q, 2, none⟩ = some (.int .i64 f2) ∧ w'.cell? ⟨Q, 3, none⟩ = some (.int .i64 e2) ∧ w'.cell? ⟨Q, 4, none⟩ = some (.slice a2 n2 c2') ∧ w'.cell? ⟨B, 2, none⟩ = some (.int .i64 f2) ∧ w'.cell? ⟨B, 3, none⟩ = some (.int .i64 e2) := fun X hX => (HDq.out X (b3.trans (hX.1.mono b3.size))).mono (fun en w' h => ⟨h.1, hS w' (hX.1.trans (h.2.mono hX.1.size))⟩)
  have HBW := Lib.hid b1
  clear hS b1 b2 b3 hp hq hx
  go_upto_region 13 with fail
  go_region_held3 (fun X => Below wr.heap.size wr X ∧ X.cell? ⟨P, 0, none⟩ = some (.string kb) ∧ X.cell? ⟨P, 1, none⟩ = some (.string tb) ∧ X.cell? ⟨P, 2, none⟩ = some (.int .i64 f) ∧ X.cell? ⟨P, 3, none⟩ = some (.int .i64 e) ∧ X.cell? ⟨P, 4, none⟩ = some (.slice a n c) ∧ X.cell? ⟨Q, 0, none⟩ = some (.string kb) ∧ X.cell? ⟨Q, 1, none⟩ = some (.string tb) ∧ X.cell? ⟨Q, 2, none⟩ = some (.int .i64 f2) ∧ X.cell? ⟨Q, 3, none⟩ = some (.int .i64 e2) ∧ X.cell? ⟨Q, 4, none⟩ = some (.slice a2 n2 c2') ∧ X.cell? ⟨B, 2, none⟩ = some (.int .i64 f2) ∧ X.cell? ⟨B, 3, none⟩ = some (.int .i64 e2)) (with_reducible (repeat (first | assumption | refine And.intro ?_ ?_))) (first | (with_reducible refine (cAl _ ?_).mono ?_; (with_reducible (repeat (first | assumption | refine And.intro ?_ ?_))); rintro en w2 ⟨rfl, hS2⟩; obtain ⟨d0, d1, d2, d3, d4, d5, d6, d7, d8, d9, d10, d11, d12⟩ := hS2) | (with_reducible refine (cD1 _ ?_).mono ?_; (with_reducible (repeat (first | assumption | refine And.intro ?_ ?_))); rintro en w2 ⟨rfl, hS2⟩; obtain ⟨d0, d1, d2, d3, d4, d5, d6, d7, d8, d9, d10, d11, d12⟩ := hS2) | (with_reducible refine (cD2 _ ?_).mono ?_; (with_reducible (repeat (first | assumption | refine And.intro ?_ ?_))); rintro en w2 ⟨rfl, hS2⟩; obtain ⟨d0, d1, d2, d3, d4, d5, d6, d7, d8, d9, d10, d11, d12⟩ := hS2))
  have HB2 := Lib.hid (HBW.out.trans (d0.mono HBW.out.size))
  clear d0 d1 d2 d3 d4 d5 d6 d7 d8 d9 d10 d11 d12 cAl cD1 cD2
  go_wp2_with fail
  go_ret
  exact ⟨rfl, HB2.out⟩
end Go.Proofs.YtnjhmjkonmmomaaDoor.J
end
/- CBlanks: The statement 'blanks' of layer 10 (bolthole/boltholelaw10.ParseBlanks): for every input it answers true, and what it was given reads afterwards as it read before; its tied card. Conditions: none beyond the card's own (the tables of unicode/utf8, and the program's own table of marks, hold what their texts lay). -/
section
namespace Go.Proofs.YtnjhmjkonmmomaaDoor.cblanks
open Go.Proofs Go.Shelf Go.RowKit Go.ChangeShapes Go.WideShapes Go.ChangeAt
open Go.ChangeMaps (open_string shut_string)
open Go.Proofs.YtnjhmjkonmmomaaDoor.U Go.Proofs.YtnjhmjkonmmomaaDoor.S Go.Proofs.YtnjhmjkonmmomaaDoor.T Go.Proofs.YtnjhmjkonmmomaaDoor.J

theorem tabs {W : World} (hL : laidMet Tryd.prog Rows.parseBlanksRow.laid W) : Tabs W := tabs_of hL (.tail _ (.tail _ (.head _))) (.head _)
theorem mtab {W : World} (hL : laidMet Tryd.prog Rows.parseBlanksRow.laid W) : K.MTab W := mtab_of hL (.tail _ (.head _))
theorem own : ownKnob Tryd.prog.godebug = none := by kernel_rfl
theorem laidOut : laidOutB Tryd.prog = true := by kernel_rfl
set_option maxRecDepth 100000 in
set_option maxHeartbeats 2000000 in
theorem contract (H : Type) (enc : TypeId × Value → H) (W : World) (base : Nat) (args : Array Value) (ds gs : List (DataW H)) (before : List MemPlace)
    (hval0 : ∀ (j : Nat) t v, Tryd.f5.params[j]? = some t → args[j]? = some v → Value.okWide Tryd.prog W .any base t v)
    (hW : DataW.Whole enc Tryd.prog Tryd.f5.params.toList Rows.parseBlanksSpec.vars false W args.toList ds gs before)
    (hsz0 : (DataW.weightsEach Tryd.prog (Tryd.f5.params.toList ++ Rows.parseBlanksSpec.plain.varTypes Tryd.prog) (ds ++ gs)).all (· ≤ reachBytes) = true) (hL : laidMetH Tryd.prog Rows.parseBlanksRow.laid W) :
    Calls Tryd.prog 5 args W fun e W' => ∃ v, e = .returned v ∧ Rows.parseBlanksSpec.post enc Tryd.prog Tryd.f5 false true false false W args v W' := by
  have hsz := hsz0
  have hval : ∀ (j : Nat) t v, Tryd.f5.params[j]? = some t → args[j]? = some v → Value.okWide Tryd.prog W .any base t v := hval0
  have hW' := hW
  obtain ⟨p, q, hA0, hV, rfl, _, _⟩ := hW
  have hA : DataW.TrodAll enc Tryd.prog W 0 (fun _ => true) true Tryd.f5.params.toList args.toList ds p := hA0
  rw [Tryd.params5] at hA hval hsz
  obtain ⟨v0, v1, d0, d1, p0, p1, rfl, rfl, hp, h0, h1⟩ := trodAll_two hA
  obtain ⟨rfl, rfl⟩ := trodVars_none hV
  simp only [List.append_nil] at hW'
  obtain ⟨s0, rfl, rfl, rfl, ws0⟩ := open_string Tryd.underlying9 (hval 0 9 v0 rfl rfl) h0
  obtain ⟨x1, rfl, rfl, rfl, wx1⟩ := open_int Tryd.underlying3 (hval 1 3 v1 rfl rfl) h1
  clear hA0 hval0 hsz0
  rw [MakeChecks.laidMetH_plain _ _ _ (by kernel_rfl)] at hL
  refine (blanks_law s0 x1 W (tabs hL) (mtab hL)).mono fun e W' ⟨he, hb⟩ => ?_
  subst he
  exact ⟨_, rfl, _, _, _, [], _, [], hW', trodAll_mk1 (shut_bool Tryd.underlying4 _), trodAll_mk2 (shut_string Tryd.underlying9 ws0) (shut_int Tryd.underlying3 wx1), rfl, hb.frame _, fun h => by cases h⟩

set_option maxRecDepth 100000 in
set_option maxHeartbeats 2000000 in
theorem lifted (os : Os) (started : os.Started) (H : Type) (enc : TypeId × Value → H) :
    ReturnsInHanded {} Tryd.checked os 5 .any (fun w args => (Rows.parseBlanksSpec.pre enc Tryd.prog Tryd.f5 [] false w args ∧ laidMetH Tryd.prog Rows.parseBlanksRow.laid w) ∧ sizedMet enc Tryd.prog Tryd.f5 (OpenSpec.ofChange Rows.parseBlanksSpec) false w args)
      (Rows.parseBlanksSpec.post enc Tryd.prog Tryd.f5 false true false false) := by
  refine returnsInHanded_of_change_and (C := Tryd.checked) (X := fun w _ => laidMetH Tryd.prog Rows.parseBlanksRow.laid w) (fun _ _ _ hh h => h.of_heap hh) own started (by kernel_rfl) Tryd.func5
    (ChangeSpec.witness_shaped (enc := enc) (C := Tryd.checked) (os := os) (X := fun w _ => laidMetH Tryd.prog Rows.parseBlanksRow.laid w) false (World.laidAll Tryd.prog os Rows.parseBlanksRow.laid) #[.string ⟨#[]⟩, .int .i64 0] 8 (World.laidAll_os _ _ _)
      (World.shaped_of_ZipB (by kernel_rfl) (by kernel_rfl)) (by kernel_rfl) (by kernel_rfl) (by kernel_rfl)
      (by rw [MakeChecks.laidMetH_plain _ _ _ (by kernel_rfl)]; exact laidMet_laidAll _ (by kernel_rfl) (by kernel_rfl))) ?_
  intro W base args ds gs before hval hW _ hsz hL _
  exact contract H enc W base args ds gs before hval hW hsz hL

theorem holds : Rows.ParseBlanksSaid :=
  OpenClaim.holds_of_wide 5 Tryd.f5 rfl rfl rfl rfl rfl rfl rfl ⟨rfl, rfl, rfl, rfl, rfl⟩ rfl rfl rfl rfl rfl (by kernel_rfl) Tryd.func5 (by kernel_rfl)
    (of_decide_eq_true (by kernel_rfl)) (by unfold Func.isWrapper; first | (rw [if_pos (by decide +kernel)]; kernel_rfl) | (rw [if_neg (by decide +kernel)]; exact ⟨rfl, rfl⟩))
    (fun os started H enc _ => lifted os started H enc)
theorem plain (f : FuncId) (fn : Func) (hf : Tryd.pinned.checked.prog.funcNamed "bolthole/boltholelaw10.ParseBlanks" = some f) (hfn : Tryd.pinned.checked.prog.funcs[f]? = some fn) :
    true = Tryd.pinned.checked.prog.looks [] ∧ ∀ (j : Nat) t, fn.params[j]? = some t → Tryd.pinned.checked.prog.wantsStandIn t = false := by
  obtain rfl : f = 5 := Option.some.inj ((show Tryd.prog.funcNamed "bolthole/boltholelaw10.ParseBlanks" = some 5 by kernel_rfl).symm.trans hf) |>.symm
  obtain rfl : fn = Tryd.f5 := (Option.some.inj (Tryd.func5.symm.trans hfn)).symm
  refine ⟨by kernel_rfl, fun j t ht => ?_⟩
  rw [Tryd.params5] at ht
  have hm : t ∈ [9, 3] := by simpa using Array.mem_of_getElem? ht
  have hall : ([9, 3].all fun u => !Tryd.prog.wantsStandIn u) = true := by kernel_rfl
  exact (show Tryd.prog.wantsStandIn t = false by simpa using List.all_eq_true.1 hall t hm)
theorem card_holds : Rows.ParseBlanksCardSaid :=
  Claim7.holds_tied_plain_at .later [] _ _ _ _ holds (fun _ h => by cases h) (by kernel_rfl) (fun _ h => by cases h) parseBlanks_row_tie rfl ⟨rfl, rfl⟩ (by kernel_rfl) rfl plain (by kernel_rfl)
end Go.Proofs.YtnjhmjkonmmomaaDoor.cblanks
end

/- The first scalar of a text, by the document's own answer: one byte, and two. -/
import Derived.Test.YtdnipjbknkmhbaaDoorScalarBase
namespace Go.Proofs.YtdnipjbknkmhbaaDoor.U
open Go.RowKit
open Go.Lib hiding intOf

theorem scalar_one (s : ByteArray) (w : World) (h0 : 0 < s.size) (_hs : s.size ≤ 1099511627776) (x : UInt8) (hx : s.get! 0 = x) (h : x.toNat < 128) :
    Calls Tryd.prog 23 #[.string s] w (TwoN (x.toNat, 1) w) := by
  have hs0 : s[0]'h0 = x := by rw [← hx]; exact get_at s 0 h0
  have hz : (x.toNat : Int) < 128 := by omega
  have hxl : x.toNat < 256 := x.toNat_lt
  clear hx
  go_enter Tryd.func23, Tryd.ntmps23
  go_wp2
  go_ret2
  exact twoN (by simp) (by simp)
set_option maxRecDepth 100000 in
theorem scalar_none (s : ByteArray) (w : World) (h0 : 0 < s.size) (_hs : s.size ≤ 1099511627776) (x : UInt8) (hx : s.get! 0 = x) (h : (128 ≤ x.toNat ∧ x.toNat < 192) ∨ 248 ≤ x.toNat) :
    Calls Tryd.prog 23 #[.string s] w (TwoN (0, 0) w) := by
  have hs0 : s[0]'h0 = x := by rw [← hx]; exact get_at s 0 h0
  have hxl : x.toNat < 256 := x.toNat_lt
  clear hx
  rcases h with ⟨ha, hb⟩ | ha
  · have hz1 : ¬ (x.toNat : Int) < 128 := by omega
    have hz2 : ¬ (192 : Int) ≤ (x.toNat : Int) := by omega
    have hz3 : ¬ (224 : Int) ≤ (x.toNat : Int) := by omega
    have hz4 : ¬ (240 : Int) ≤ (x.toNat : Int) := by omega
    go_enter Tryd.func23, Tryd.ntmps23
    go_wp2
    go_ret2
    exact twoN rfl rfl
  · have hz1 : ¬ (x.toNat : Int) < 128 := by omega
    have hz2 : (192 : Int) ≤ (x.toNat : Int) := by omega
    have hz3 : (224 : Int) ≤ (x.toNat : Int) := by omega
    have hz4 : (240 : Int) ≤ (x.toNat : Int) := by omega
    have hz5 : ¬ (x.toNat : Int) < 248 := by omega
    go_enter Tryd.func23, Tryd.ntmps23
    go_wp2
    go_ret2
    exact twoN rfl rfl

set_option maxRecDepth 100000 in
set_option maxHeartbeats 2000000 in
theorem scalar_2 (s : ByteArray) (w : World) (h0 : 0 < s.size) (hs : s.size ≤ 1099511627776) (x : UInt8) (hx : s.get! 0 = x) (ha : 192 ≤ x.toNat) (hb : x.toNat < 224) :
    Calls Tryd.prog 23 #[.string s] w (TwoN (refC s 2 128 (x.toNat - 192)) w) := by
  have hs0 : s[0]'h0 = x := by rw [← hx]; exact get_at s 0 h0
  have hxl : x.toNat < 256 := x.toNat_lt
  have hz0 : ¬ (x.toNat : Int) < 128 := by omega
  have hz1 : (192 : Int) ≤ (x.toNat : Int) := by omega
  have hz2 : (x.toNat : Int) < 224 := by omega
  clear hx
  unfold refC
  by_cases hn : s.size < 2
  · rw [if_pos hn]
    have hnz : (s.size : Int) < 2 := by omega
    go_enter Tryd.func23, Tryd.ntmps23
    go_wp2
    go_ret2
    exact twoN rfl rfl
  · rw [if_neg hn]
    have hnz : ¬ (s.size : Int) < 2 := by omega
    obtain ⟨R, hR⟩ : ∃ R, contF s 2 (2 - 1) 1 (x.toNat - 192) = R := ⟨_, rfl⟩
    rw [hR]
    have HR := Lib.hid hR; clear hR
    obtain ⟨y, hy⟩ : ∃ y : Nat, x.toNat = y + 192 := ⟨x.toNat - 192, by omega⟩
    have hyz : ((x.toNat : Int) - 192) = (y : Int) := by omega
    have HY : Hid (x.toNat = y + 192) := Lib.hid hy
    clear hy
    go_enter Tryd.func23, Tryd.ntmps23
    go_wp2
    go_loop [4, 7] (fun cv iv => ∃ (c i : Nat), cv = .int .i64 c ∧ iv = .int .i64 i ∧ Hid (contF s 2 (2 - i) i c = R) ∧ ((i = 1 ∧ c < 32) ∨ (i = 2 ∧ c < 8388608))) (fun _ iv => 2 - (intOf iv).toNat)
    case atStart =>
      have hy := HY.out
      refine ⟨y, 1, rfl, rfl, Lib.hid ?_, by omega⟩
      rw [← HR.out]; congr 1; omega
    case round =>
      obtain ⟨c, i, rfl, rfl, HC, hrng⟩ := hrel
      clear hyz HY HR hs0
      by_cases hin : i < 2
      · obtain ⟨v, hv⟩ : ∃ v, s.get! i = v := ⟨_, rfl⟩
        have hi2 : i < s.size := by omega
        have hsi : s[i]'hi2 = v := by rw [← hv]; exact get_at s i hi2
        have hvl : v.toNat < 256 := v.toNat_lt
        have hbad := contF_bad s 2 (2 - i - 1) i c hin
        have hon := contF_on s 2 (2 - i - 1) i c hin
        rw [hv, show 2 - i - 1 + 1 = 2 - i by omega] at hbad hon
        have HB := Lib.hid hbad
        have HO := Lib.hid hon
        clear hbad hon hv
        by_cases q1 : v.toNat < 128
        · have q1z : (v.toNat : Int) < 128 := by omega
          have hRn : Hid (R = none) := Lib.hid (HC.out.symm.trans (HB.out (.inl q1)))
          go_wp2
          go_ret2
          rw [hRn.out]
          exact twoN rfl rfl
        · have q1z : ¬ (v.toNat : Int) < 128 := by omega
          by_cases q2 : 192 ≤ v.toNat
          · have q2z : (192 : Int) ≤ (v.toNat : Int) := by omega
            have hRn : Hid (R = none) := Lib.hid (HC.out.symm.trans (HB.out (.inr q2)))
            go_wp2
            go_ret2
            rw [hRn.out]
            exact twoN rfl rfl
          · have q2z : ¬ (192 : Int) ≤ (v.toNat : Int) := by omega
            have hcn : Hid (contF s 2 (2 - (i + 1)) (i + 1) (64 * c + v.toNat - 128) = R) := Lib.hid (by rw [← HC.out, HO.out (by omega)]; congr 1)
            go_wp2
            go_round
            case rel => exact ⟨64 * c + v.toNat - 128, i + 1, by go_num, by go_num, hcn, by omega⟩
            case measure => simp [intOf]; omega
      · have hfin := contF_done s 2 (2 - i) i c hin
        have hRn : Hid (R = some c) := Lib.hid (HC.out.symm.trans hfin)
        clear hfin HC
        have hc8 : c < 8388608 := by omega
        clear hrng
        by_cases p1 : c < 128
        · have p1z : (c : Int) < 128 := by omega
          go_wp2
          go_ret2
          have hans := refFin_bad 128 2 c (.inl p1)
          rw [← hRn.out] at hans
          rw [hans]
          exact twoN rfl rfl
        · have p1z : ¬ (c : Int) < 128 := by omega
          by_cases p2 : 1114111 < c
          · have p2z : (1114111 : Int) < (c : Int) := by omega
            go_wp2
            go_ret2
            have hans := refFin_bad 128 2 c (.inr (.inl p2))
            rw [← hRn.out] at hans
            rw [hans]
            exact twoN rfl rfl
          · have p2z : ¬ (1114111 : Int) < (c : Int) := by omega
            by_cases p3 : 55296 ≤ c
            · have p3z : (55296 : Int) ≤ (c : Int) := by omega
              by_cases p4 : c ≤ 57343
              · have p4z : (c : Int) ≤ 57343 := by omega
                first
                  | (exfalso; omega)
                  | (go_wp2
                     go_ret2
                     have hans := refFin_bad 128 2 c (.inr (.inr ⟨p3, p4⟩))
                     rw [← hRn.out] at hans
                     rw [hans]
                     exact twoN rfl rfl)
              · have p4z : ¬ (c : Int) ≤ 57343 := by omega
                go_wp2
                go_ret2
                have hans := refFin_ok 128 2 c p1 p2 (by omega)
                rw [← hRn.out] at hans
                rw [hans]
                exact twoN rfl rfl
            · have p3z : ¬ (55296 : Int) ≤ (c : Int) := by omega
              first
                | (exfalso; omega)
                | (go_wp2
                   go_ret2
                   have hans := refFin_ok 128 2 c p1 p2 (by omega)
                   rw [← hRn.out] at hans
                   rw [hans]
                   exact twoN rfl rfl)
end Go.Proofs.YtdnipjbknkmhbaaDoor.U

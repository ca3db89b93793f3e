/- The contract of the document's own Pieces of layer 9. -/
import Derived.Test.YtapjomdplibanaaDoorQRef
namespace Go.Proofs.YtapjomdplibanaaDoor.Q
open Go.RowKit
open Go.Lib hiding intOf
open Go.Proofs.YtapjomdplibanaaDoor.U Go.Proofs.YtapjomdplibanaaDoor.S Go.Proofs.YtapjomdplibanaaDoor.L

set_option maxHeartbeats 8000000 in
set_option maxRecDepth 20000 in
theorem refPieces_any (s : ByteArray) (w : World) (hs : s.size ≤ 1000000) :
    Calls Tryd.prog 9 #[.string s] w fun e w' => ∃ v, e = .returned v ∧ PcsIn w.heap.size w' (pieces s.toList) v ∧ Below w.heap.size w w' := by
  obtain ⟨i0, hi0, hz0, hz1, hz2⟩ := info_parts infoR
  have HP0 : Hid (pieces s.toList = [] ++ chain s.toList s.size 0 (cuts s.toList 1 (s.size - 1))) := Lib.hid (by unfold pieces; rw [tl_len]; rfl)
  have CB := Lib.hid (fun i (hi : i ≤ s.size) X => refBegins_any s i X hi hs)
  have CM := Lib.hid (fun f e (hfe : f ≤ e) (hes : e ≤ s.size) X => refMade_any s f e X hfe hes hs)
  go_enter Tryd.func9, Tryd.ntmps9
  go_wp2_with fail
  go_loopw [3, 4, 5] (fun ov fv iv wr => ∃ (f i : Nat) (O : List PcP), fv = .int .i64 f ∧ iv = .int .i64 i ∧ f < i ∧ (i ≤ s.size ∨ i = 1) ∧ O.length ≤ i ∧ Hid (wr.ownsRow w.heap.size 42 4 ov O.length (pcCs O)) ∧ Hid (Below w.heap.size w wr) ∧ Hid (pieces s.toList = O ++ chain s.toList s.size f (cuts s.toList i (s.size - i)))) (fun _ _ iv _ => s.size - (intOf iv).toNat)
  case atStart => exact ⟨0, 1, [], rfl, rfl, by omega, .inr rfl, by simp, Lib.hid (World.ownsRow_nil _ _ _ _), Lib.hid (Below.refl _ _), HP0⟩
  case round =>
    obtain ⟨f, i, O, rfl, rfl, hfi, hi, hO, HR, HL, HP⟩ := hrel
    clear HP0
    obtain ⟨va, vc, rfl⟩ := owns_len HR.out
    obtain ⟨m, hm⟩ : ∃ m, O.length = m := ⟨_, rfl⟩
    rw [hm] at HR hO ⊢
    have HM := Lib.hid hm
    clear hm
    by_cases hlt : i < s.size
    · have c1 := CB.out i (by omega) wr
      have hst := cuts_succ s.toList i (s.size - (i + 1))
      rw [show s.size - (i + 1) + 1 = s.size - i by omega] at hst
      obtain ⟨b, hb⟩ : ∃ b, beg s.toList i = b := ⟨_, rfl⟩
      rw [hb] at c1 hst
      cases b
      · have HP2 : Hid (pieces s.toList = O ++ chain s.toList s.size f (cuts s.toList (i + 1) (s.size - (i + 1)))) := Lib.hid (by rw [HP.out, hst]; simp)
        clear hst hb
        go_wp2_with fail
        refine c1.mono ?_
        rintro e w2 ⟨rfl, rfl⟩
        clear c1
        go_wp2_with fail
        go_roundw
        case rel => exact ⟨f, i + 1, O, rfl, by go_num, by omega, by omega, by rw [HM.out]; omega, by rw [HM.out]; exact HR, HL, HP2⟩
        case measure => simp [intOf]; omega
      · have c2 := CM.out f i (by omega) (by omega) wr
        have hmd : made s.toList f i = ⟨f, i, (made s.toList f i).d, (made s.toList f i).j⟩ := rfl
        have HP2 : Hid (pieces s.toList = (O ++ [made s.toList f i]) ++ chain s.toList s.size i (cuts s.toList (i + 1) (s.size - (i + 1)))) := Lib.hid (by
          rw [HP.out, hst, if_pos rfl]
          simp [chain, heads, lastD])
        rw [hmd] at HP2
        obtain ⟨md, hmd2⟩ : ∃ md, (made s.toList f i).d = md := ⟨_, rfl⟩
        obtain ⟨mj, hmj2⟩ : ∃ mj, (made s.toList f i).j = mj := ⟨_, rfl⟩
        rw [hmd2, hmj2] at HP2 c2
        clear hst hb hmd hmd2 hmj2
        go_wp2_with fail
        refine c1.mono ?_
        rintro e w2 ⟨rfl, rfl⟩
        clear c1
        go_wp2_with fail
        refine c2.mono ?_
        rintro e w5 ⟨rfl, hb5⟩
        have HR5 := Lib.hid (owns_later HR.out hb5)
        have HL5 := Lib.hid (HL.out.trans (hb5.mono HL.out.size))
        clear c2 hb5
        go_wp2_with (at_builtin; refine wpList_append_own _ rfl _ _ 25 rfl w.heap.size 42 i0 (.agg #[.int .i64 0, .int .i64 0, .bool false, .bool false]) 4 24 Tryd.underlying25 hi0 hz0 hz1 hz2 rfl (by decide) _ _ _ rfl (HR5.out.alloc _) ⟨w5.heap.size, 0, none⟩ 1 1 (pcCs [⟨f, i, md, mj⟩]) rfl rfl ?c1 (plain_pcs _) ?c3 ?c4 ?c5 ?_)
        case c1 => exact new_pc _ _ _ _ _ _
        case c3 => unfold maxLen; omega
        case c4 => omega
        case c5 => rw [World.size_alloc]; have := HL5.out.size; omega
        intro v6 w6 hv6 hg6 _
        have HL6 := Lib.hid (below_grown HL5.out HR5.out hg6 HL5.out.size)
        rw [← pcCs_app] at hv6
        have HR6 : Hid (w6.ownsRow w.heap.size 42 4 v6 (O ++ [(⟨f, i, md, mj⟩ : PcP)]).length (pcCs (O ++ [⟨f, i, md, mj⟩]))) := Lib.hid (by rw [List.length_append, HM.out]; exact hv6)
        clear hv6 hg6
        go_wp2_with fail
        go_roundw
        case rel => exact ⟨i, i + 1, O ++ [⟨f, i, md, mj⟩], rfl, by go_num, by omega, by omega, by rw [List.length_append, HM.out]; simp; omega, HR6, HL6, HP2⟩
        case measure => simp [intOf]; omega
    · have hfs : f ≤ s.size := by omega
      have c2 := CM.out f s.size hfs (Nat.le_refl _) wr
      have HP2 : Hid (pieces s.toList = O ++ [made s.toList f s.size]) := Lib.hid (by
        rw [HP.out, show s.size - i = 0 by omega]
        rfl)
      have hmd : made s.toList f s.size = ⟨f, s.size, (made s.toList f s.size).d, (made s.toList f s.size).j⟩ := rfl
      rw [hmd] at HP2
      obtain ⟨md, hmd2⟩ : ∃ md, (made s.toList f s.size).d = md := ⟨_, rfl⟩
      obtain ⟨mj, hmj2⟩ : ∃ mj, (made s.toList f s.size).j = mj := ⟨_, rfl⟩
      rw [hmd2, hmj2] at HP2 c2
      clear hmd hmd2 hmj2
      go_wp2_with fail
      refine c2.mono ?_
      rintro e w5 ⟨rfl, hb5⟩
      have HR5 := Lib.hid (owns_later HR.out hb5)
      have HL5 := Lib.hid (HL.out.trans (hb5.mono HL.out.size))
      clear c2 hb5
      go_wp2_with (at_builtin; refine wpList_append_own _ rfl _ _ 25 rfl w.heap.size 42 i0 (.agg #[.int .i64 0, .int .i64 0, .bool false, .bool false]) 4 24 Tryd.underlying25 hi0 hz0 hz1 hz2 rfl (by decide) _ _ _ rfl (HR5.out.alloc _) ⟨w5.heap.size, 0, none⟩ 1 1 (pcCs [⟨f, s.size, md, mj⟩]) rfl rfl ?c1 (plain_pcs _) ?c3 ?c4 ?c5 ?_)
      case c1 => exact new_pc _ _ _ _ _ _
      case c3 => unfold maxLen; omega
      case c4 => omega
      case c5 => rw [World.size_alloc]; have := HL5.out.size; omega
      intro v6 w6 hv6 hg6 _
      have HL6 := Lib.hid (below_grown HL5.out HR5.out hg6 HL5.out.size)
      rw [← pcCs_app] at hv6
      have HR6 := Lib.hid hv6
      clear hv6 hg6
      go_wp2_with fail
      go_ret
      refine ⟨_, rfl, ?_, HL6.out⟩
      rw [HP2.out]
      exact pcs_row HR6.out (by rw [List.length_append, HM.out]; rfl) (Nat.le_refl _)
end Go.Proofs.YtapjomdplibanaaDoor.Q

/- The program's store: All, by name, rising. -/
import Derived.Test.YtccmicmlkgkheaaDoorDSto2
import Derived.Test.YtccmicmlkgkheaaDoorDIter
import Derived.Test.YtccmicmlkgkheaaDoorDRef6
namespace Go.Proofs.YtccmicmlkgkheaaDoor.D
open Go.RowKit
open Go.Lib hiding intOf
open Go.Proofs.YtccmicmlkgkheaaDoor.U Go.Proofs.YtccmicmlkgkheaaDoor.L Go.Proofs.YtccmicmlkgkheaaDoor.E

theorem take_snoc {l : List DocP} {i : Nat} (hi : i < l.length) : l.take (i + 1) = l.take i ++ [l[i]] := by
  rw [List.take_add_one, List.getElem?_eq_getElem hi]; rfl
/-- The names in memory. -/
theorem names_cells {W : World} {Z : Nat} {l : List DocP} {v : Value} (h : W.ownsRow Z 9 1 v (namesL l).length ((namesL l).map Go.Proofs.encStr)) :
    ∃ a cap, v = .slice a l.length cap ∧ ∀ i (hi : i < l.length), ∃ g, a = some ⟨g, 0, none⟩ ∧ Z ≤ g ∧ g < W.heap.size ∧ W.cell? ⟨g, i, none⟩ = some (.string l[i].n) := by
  have hlen : (namesL l).length = l.length := by simp [namesL]
  rw [hlen] at h
  obtain ⟨a, cap, rfl⟩ := owns_len h
  refine ⟨a, cap, rfl, fun i hi => ?_⟩
  obtain ⟨g, c, he, _, hg, hg2⟩ := row_some h (by omega)
  cases he
  refine ⟨g, rfl, hg, hg2, ?_⟩
  have hc := h.cellAt i (by omega)
  rw [hc]
  simp [namesL, hi, Go.Proofs.encStr]

set_option maxHeartbeats 8000000 in
set_option maxRecDepth 20000 in
theorem all_any (p : Nat) (y : Option Nat) (l : List DocP) (w : World) (h : PSt p y l w) (hI : Inv l) :
    Calls Tryd.prog 12 #[.pointer (some ⟨p, 0, none⟩)] w fun e w' => (∃ v, e = .returned v ∧ DocsIn w.heap.size w' l v) ∧ Below w.heap.size w w' := by
  have cK := keys_any y w
  have cS := sorted_any h hI
  have p0 := h.c0
  have hl : l.length ≤ 8 := hI.few
  obtain ⟨i0, hi0, hz0, hz1, hz2⟩ := info_parts infoDoc
  have HP := Lib.hid h
  have HI := Lib.hid hI
  clear h hI
  go_enter Tryd.func12, Tryd.ntmps12
  go_wp2_with fail
  refine cK.mono ?_
  rintro e w1 ⟨rfl, rfl⟩
  clear cK p0
  go_wp2_with fail
  refine cS.mono ?_
  rintro e w2 ⟨v, rfl, hrow, hb2⟩
  obtain ⟨a, cap, rfl, hat⟩ := names_cells hrow
  have hbw : Below w.heap.size w w2 := ((Below.refl _ _).alloc (Nat.le_refl _) _).trans (hb2.mono (by simp))
  obtain ⟨m, hm⟩ : ∃ m, l.length = m := ⟨_, rfl⟩
  obtain ⟨Z, hZ⟩ : ∃ Z, w2.heap.size = Z := ⟨_, rfl⟩
  have HM := Lib.hid hm
  have HZ := Lib.hid hZ
  have HAT := Lib.hid hat
  have HBW := Lib.hid hbw
  have HPS := Lib.hid (HP.out.later hbw)
  rw [hm] at hl ⊢
  clear cS hrow hb2 hat hm hZ hbw
  go_wp2_with fail
  go_loopw [3, 15] (fun ov iv wr => ∃ (i : Nat), iv = .int .i64 i ∧ i ≤ m ∧ Hid (wr.ownsRow Z 30 3 ov i (docCs (l.take i))) ∧ Hid (Below Z w2 wr)) (fun _ iv _ => m - (intOf iv).toNat)
  case atStart => exact ⟨0, rfl, Nat.zero_le _, Lib.hid (World.ownsRow_nil _ _ _ _), Lib.hid (Below.refl _ _)⟩
  case round =>
    obtain ⟨i, rfl, hi, HR, HL⟩ := hrel
    obtain ⟨oa, oc, rfl⟩ := owns_len HR.out
    have hzr : Z ≤ wr.heap.size := by have := HL.out.size; have := HZ.out; omega
    by_cases hlt : i < m
    · have hil : i < l.length := by rw [HM.out]; exact hlt
      obtain ⟨g, rfl, _, hg2, hc⟩ := HAT.out i hil
      have hgZ : g < Z := by rw [← HZ.out]; exact hg2
      have c0 : wr.cell? ⟨g, i, none⟩ = some (.string l[i].n) := by rw [← hc]; unfold World.cell?; rw [HL.out.block g hgZ]
      have hP := HPS.out.later (W' := wr) (by rw [HZ.out]; exact HL.out)
      have p0 := hP.c0
      have hn : l[i].n.size ≤ 1000000 := by
        have h1 := (HI.out.each l[i] (List.getElem_mem hil)).1
        unfold nameOk at h1
        simp at h1
        omega
      have hlk := hP.look1 hn
      have hget : getL l l[i].n = l[i] := by unfold getL; rw [HI.out.find (List.getElem_mem hil)]; rfl
      rw [hget] at hlk
      obtain ⟨x, hx⟩ : ∃ x, l[i] = x := ⟨_, rfl⟩
      have HT2 := Lib.hid (take_snoc hil)
      rw [hx] at HT2 c0 hlk
      have d1 : decide ((i : Int) < (m : Int)) = true := by simpa using hlt
      clear hx hget hn hP hc
      go_wp2_with (at_builtin; refine wpList_append_own _ rfl _ _ 26 rfl Z 30 i0 (.agg #[.string ⟨#[]⟩, .int .i64 0, .string ⟨#[]⟩]) 3 40 Tryd.underlying26 hi0 hz0 hz1 hz2 rfl (by decide) _ _ _ rfl (HR.out.alloc _) ⟨wr.heap.size, 0, none⟩ 1 1 (docCs [x]) rfl rfl ?c1 (plain_cells _) ?c3 ?c4 ?c5 ?_)
      case c1 => exact one_new _ _
      case c3 => unfold maxLen; omega
      case c4 => omega
      case c5 => rw [World.size_alloc]; omega
      intro v5 w5 hv5 hg5 _
      have HV5 := Lib.hid hv5
      have HB5 := Lib.hid (below_grown HL.out HR.out hg5 (by omega))
      clear hv5 hg5
      go_wp2_with fail
      go_roundw
      case rel => exact ⟨i + 1, by go_num, by omega, Lib.hid (by have := HV5.out; rw [← docCs_app] at this; rw [HT2.out]; exact this), HB5⟩
      case measure => simp [intOf]; omega
    · obtain rfl : i = m := by omega
      have d1 : decide ((i : Int) < (i : Int)) = false := by simp
      go_wp2_with fail
      go_ret
      refine ⟨⟨_, rfl, ?_⟩, HBW.out.trans (HL.out.mono (by have := HBW.out.size; have := HZ.out; omega))⟩
      have hr := HR.out
      have e : l.take i = l := by rw [← HM.out, List.take_length]
      rw [e] at hr
      exact docs_row hr HM.out (by have := HBW.out.size; have := HZ.out; omega)
end Go.Proofs.YtccmicmlkgkheaaDoor.D

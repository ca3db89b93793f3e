/- The contract of the document's own Split: all lines of a text. -/
import Derived.Test.YtccmicmlkgkheaaDoorLArgs
import Derived.Laws.OwnMore
namespace Go.Proofs.YtccmicmlkgkheaaDoor.L
open Go.RowKit
open Go.Lib hiding intOf
open Go.Proofs.YtccmicmlkgkheaaDoor.U

theorem infoS : (Tryd.prog.info? 9).map (fun i => (i.zero, i.size, i.bytes)) = some (some (.string ⟨#[]⟩), 1, 16) := by kernel_rfl
/-- The lines that have ended. -/
def outL (s : ByteArray) (E : List Nat) : List Value := (List.range E.length).map fun n => .string (s.extract (nx E n) (E.getD n 0))
theorem outL_len (s : ByteArray) (E : List Nat) : (outL s E).length = E.length := by simp [outL]
theorem outL_snoc (s : ByteArray) (E : List Nat) (e : Nat) : outL s (E ++ [e]) = outL s E ++ [.string (s.extract (nx E E.length) e)] := by
  unfold outL
  rw [List.length_append, List.length_singleton, List.range_succ, List.map_append, List.map_singleton, nx_snoc _ _ _ (Nat.le_refl _), getD_last]
  congr 1
  apply List.map_congr_left
  intro n hn
  have hn' : n < E.length := by simpa using hn
  rw [nx_snoc _ _ _ (by omega), getD_snoc _ _ _ hn']
def lastL (s : ByteArray) (E : List Nat) (t : ByteArray) : List Value := outL s E ++ [.string t]
theorem lastL_at (s : ByteArray) (E : List Nat) (t : ByteArray) : (lastL s E t)[E.length]? = some (.string t) := by
  unfold lastL
  rw [List.getElem?_append_right (by rw [outL_len]; exact Nat.le_refl _), outL_len, Nat.sub_self]; rfl
theorem lastL_set (s : ByteArray) (E : List Nat) (t u : ByteArray) : (lastL s E t).set E.length (.string u) = lastL s E u := by
  unfold lastL
  rw [List.set_append, outL_len, if_neg (by omega), Nat.sub_self]; rfl
theorem lastL_snoc (s : ByteArray) (E : List Nat) (e : Nat) : lastL s E (s.extract (nx E E.length) e) ++ [.string ⟨#[]⟩] = lastL s (E ++ [e]) ⟨#[]⟩ := by
  unfold lastL; rw [outL_snoc]
theorem lastL_line (s : ByteArray) (n : Nat) (hn : n ≤ (ends s).length) : (lastL s (ends s) (s.extract (nx (ends s) (ends s).length) s.size))[n]? = some (.string (ln s n)) := by
  rcases Nat.lt_or_ge n (ends s).length with hlt | hge
  · unfold lastL
    rw [List.getElem?_append_left (by rw [outL_len]; exact hlt)]
    unfold outL ln
    rw [List.getElem?_map, List.getElem?_range hlt, en_at _ _ _ hlt]; rfl
  · obtain rfl : n = (ends s).length := by omega
    rw [lastL_at]; unfold ln; rw [en_last]
theorem one_more {w : World} {B n : Nat} {e : TypeId} {v : Value} {xs : List Value} (h : w.ownsRow B e 1 v (n + 1) xs) : ∃ g c, v = .slice (some ⟨g, 0, none⟩) (n + 1) c ∧ B ≤ g ∧ g < w.heap.size := by
  rcases h.2 with ⟨_, h0⟩ | ⟨g, cap, cur, rfl, _⟩
  · omega
  · have := h.lt g rfl
    exact ⟨g, cap, rfl, this.1, this.2⟩

/-- How Split ends. -/
def SplitPost (s : ByteArray) (w : World) (e : Ending) (w' : World) : Prop :=
  ∃ g cap, e = .returned (.slice (some ⟨g, 0, none⟩) ((ends s).length + 1) cap) ∧ Below w.heap.size w w' ∧ g < w'.heap.size ∧ ∀ n, n ≤ (ends s).length → w'.cell? ⟨g, n, none⟩ = some (.string (ln s n))

set_option maxHeartbeats 2000000 in
set_option maxRecDepth 100000 in
theorem split_any (s : ByteArray) (w : World) (hs : s.size ≤ 1000000) :
    Calls Tryd.prog 66 #[.string s] w (SplitPost s w) := by
  obtain ⟨i0, hi0, hz0, hz1, hz2⟩ := info_parts infoS
  have HST := Lib.hid (World.ownsRow_lit (base := w.heap.size) (e := 9) (size := 1) w #[.string ⟨#[]⟩] 1 (Nat.le_refl _) (by decide) rfl)
  go_enter Tryd.func66, Tryd.ntmps66
  go_wp2_with fail
  go_loopw [3, 4, 5] (fun ov fv iv wr => ∃ (i m : Nat), iv = .int .i64 i ∧ i ≤ s.size ∧ Hid ((endsTo s i).length = m) ∧ fv = .int .i64 (nx (endsTo s i) m) ∧ Hid (wr.ownsRow w.heap.size 9 1 ov (m + 1) (lastL s (endsTo s i) ⟨#[]⟩)) ∧ Hid (Below w.heap.size w wr)) (fun _ _ iv _ => s.size - (intOf iv).toNat)
  case atStart => exact ⟨0, 0, rfl, Nat.zero_le _, Lib.hid rfl, rfl, HST, Lib.hid ((Below.refl _ _).alloc (Nat.le_refl _) _)⟩
  case round =>
    clear HST
    obtain ⟨i, m, rfl, hi, HM, rfl, HR, HL⟩ := hrel
    obtain ⟨g, cap, rfl, hBg, hgl⟩ := one_more HR.out
    have hnx := (nx_le_en (rise_to s i) m (by rw [HM.out]; exact Nat.le_refl _)).1
    have hle := endsTo_len s i
    rw [HM.out] at hle
    have hen : en (endsTo s i) i m = i := by rw [← HM.out, en_last]
    rw [hen] at hnx
    clear hen
    have hcm : wr.cell? ⟨g, m, none⟩ = some (.string ⟨#[]⟩) := by
      rw [HR.out.cellAt m (by omega), ← HM.out, lastL_at]
    have hfm := HR.out.frozenAt m
    by_cases hlt : i < s.size
    · obtain ⟨x, hx⟩ : ∃ x, s[i] = x := ⟨_, rfl⟩
      have hnl : nlAt s i = (x.toNat == 10) := by unfold nlAt; rw [← hx, Utf8W.get!_of_lt s i hlt]
      have HX := Lib.hid hx
      by_cases h10 : x.toNat = 10
      · have HE : Hid (endsTo s (i + 1) = endsTo s i ++ [i]) := Lib.hid (endsTo_hit s i (by rw [hnl, h10]; rfl))
        have hzx : ((x.toNat : Int) == 10) = true := by simp; omega
        have hst := HR.out.stored m (.string (s.extract (nx (endsTo s i) m) i))
        rw [← HM.out, lastL_set, HM.out] at hst
        generalize endsTo s i = E at HE HR HM hnx hst ⊢
        obtain ⟨f, hf⟩ : ∃ f, nx E m = f := ⟨_, rfl⟩
        have HF := Lib.hid hf
        rw [hf] at hnx hst ⊢
        have hr := hst.1
        have HG := Lib.hid hst.2
        clear hnl h10 hst hf
        go_upto_region 8 with fail
        obtain ⟨W2, hW2⟩ : ∃ W2, wr.setCell ⟨g, m, none⟩ (.string (s.extract f i)) = W2 := ⟨_, rfl⟩
        rw [hW2] at hr HG ⊢
        have HW2 := Lib.hid (show Below w.heap.size w W2 by rw [← hW2]; exact HL.out.setCell (by simpa using hBg) _)
        clear hW2 hcm hfm
        have HRR := Lib.hid hr
        go_wp2_with (at_builtin; refine wpList_append_own _ rfl _ _ 58 rfl w.heap.size 9 i0 (.string ⟨#[]⟩) 1 16 Tryd.underlying58 hi0 hz0 hz1 hz2 rfl (by decide) _ _ _ rfl (hr.alloc _) ⟨W2.heap.size, 0, none⟩ 1 1 [.string ⟨#[]⟩] rfl rfl ?c1 ?c2 ?c3 ?c4 ?c5 ?_)
        case c1 => exact cell_one _ _ _
        case c2 => intro u hu; simp only [List.mem_singleton] at hu; subst hu; rfl
        case c3 => unfold maxLen; omega
        case c4 => omega
        case c5 => have := HW2.out.size; rw [World.size_alloc]; omega
        intro v1 w3 hv1 hg1 _
        have HV1 := Lib.hid hv1
        have HG1 := Lib.hid hg1
        clear hv1 hg1 hr
        go_wp2_with fail
        go_roundw
        case rel =>
          refine ⟨i + 1, m + 1, by go_num, by omega, Lib.hid ?_, ?_, Lib.hid ?_, Lib.hid ?_⟩
          · rw [HE.out, List.length_append, HM.out]; rfl
          · rw [HE.out, nx_succ]
            have := getD_last E i
            rw [HM.out] at this
            rw [this]; go_num
          · have h := HV1.out
            rw [HE.out, ← lastL_snoc, HM.out, HF.out]
            exact h
          · refine HW2.out.trans ⟨?_, ?_, ?_, ?_, fun k hk => ?_⟩
            · exact HG1.out.os
            · exact HG1.out.tape
            · exact HG1.out.output
            · have := HG1.out.size; rw [World.size_alloc] at this; omega
            · have hsz := HL.out.size
              have hsz2 := HW2.out.size
              exact (HG1.out.block k (by rw [World.size_alloc]; omega) (fun e => by have := HRR.out.lt k e.symm; omega)).trans (Below.heap_alloc _ _ _ (by omega))
        case measure => simp [intOf]; omega
      · have HE : Hid (endsTo s (i + 1) = endsTo s i) := Lib.hid (endsTo_miss s i (by rw [hnl]; simpa using h10))
        have hzx : ((x.toNat : Int) == 10) = false := by simp; omega
        clear hnl h10 hcm hfm
        go_wp2_with fail
        go_roundw
        case rel => exact ⟨i + 1, m, by go_num, by omega, by rw [HE.out]; exact HM, by rw [HE.out], by rw [HE.out]; exact HR, HL⟩
        case measure => simp [intOf]; omega
    · obtain rfl : i = s.size := by omega
      have hst := (HR.out.stored m (.string (s.extract (nx (endsTo s s.size) m) s.size))).1
      rw [← HM.out, lastL_set, HM.out] at hst
      have hm : m = (ends s).length := HM.out.symm
      have HST := Lib.hid hst
      clear hst
      obtain ⟨f, hf⟩ : ∃ f, nx (endsTo s s.size) m = f := ⟨_, rfl⟩
      rw [hf] at hnx HST ⊢
      have HMM := Lib.hid hm
      have HF := Lib.hid hf
      clear hm hf
      go_wp2_with fail
      go_ret
      refine ⟨g, cap, by rw [← HMM.out]; rfl, HL.out.setCell (by simpa using hBg) _, by simpa using hgl, fun n hn => ?_⟩
      rw [HST.out.cellAt n (by rw [HMM.out]; omega), ← HF.out, HMM.out]
      exact lastL_line s n hn
end Go.Proofs.YtccmicmlkgkheaaDoor.L

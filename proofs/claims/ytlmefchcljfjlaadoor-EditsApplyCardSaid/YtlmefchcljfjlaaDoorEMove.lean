/- The contract of Move: where a byte stands behind an edit, or the error. -/
import Derived.Test.YtlmefchcljfjlaaDoorEApply
namespace Go.Proofs.YtlmefchcljfjlaaDoor.E
open Go.RowKit
open Go.Lib hiding intOf
open Go.Proofs.YtlmefchcljfjlaaDoor.U Go.Proofs.YtlmefchcljfjlaaDoor.L

theorem applyL_one {s : ByteArray} {e : EdP} (hok : okB s = true) : applyL s [e] = step s e := by
  unfold applyL
  rw [if_pos hok]
  simp only [steps]
  by_cases h : (step s e).2 = 0
  · rw [if_pos h, ← h]
  · rw [if_neg h, ← step_err h]
theorem move_or (s : ByteArray) (e : EdP) (x : Int) :
    (∃ c : Int, (c == 0) = false ∧ spanL s e = (0, 0, c) ∧ moveL s e x = (0, c)) ∨
    (∃ a b : Nat, a ≤ b ∧ b ≤ s.size ∧ a + e.t.size + (s.size - b) ≤ 16384 ∧ spanL s e = ((a : Int), (b : Int), 0) ∧
      ((x < 0 ∧ moveL s e x = (0, 51)) ∨ ((s.size : Int) < x ∧ moveL s e x = (0, 51)) ∨ (0 ≤ x ∧ x ≤ s.size ∧ x ≤ (a : Int) ∧ moveL s e x = (x, 0)) ∨
        (0 ≤ x ∧ x ≤ s.size ∧ (a : Int) < x ∧ (b : Int) ≤ x ∧ moveL s e x = ((a : Int) + e.t.size + x - b, 0)) ∨ (0 ≤ x ∧ x ≤ s.size ∧ (a : Int) < x ∧ x < (b : Int) ∧ moveL s e x = ((a : Int) + e.t.size, 0)))) := by
  cases hok : okB s with
  | false =>
    refine .inl ⟨11, rfl, by unfold spanL; rw [if_pos hok], ?_⟩
    have : applyL s [e] = (⟨#[]⟩, 11) := by unfold applyL; rw [if_neg (by rw [hok]; simp)]
    unfold moveL; rw [this]; simp
  | true =>
    rcases span_step (x := s) (e := e) hok with ⟨c, hc, h1, h2⟩ | ⟨a, b, hab, hbz, hpz, _, h1, h2, ha, hb⟩
    · refine .inl ⟨c, hc, h1, ?_⟩
      unfold moveL; rw [applyL_one hok, h2]
      have hc' : ¬ c = 0 := by simpa using hc
      simp only; rw [if_pos hc']
    · rw [put_size (by omega) hbz] at hpz
      refine .inr ⟨a, b, hab, hbz, hpz, h1, ?_⟩
      have hm : moveL s e x = if x < 0 ∨ (s.size : Int) < x then (0, 51) else if x ≤ (a : Int) then (x, 0) else if (b : Int) ≤ x then (((put s a b e.t).size : Int) - ((s.size : Int) - x), 0) else ((a : Int) + e.t.size, 0) := by
        unfold moveL; rw [applyL_one hok, h2, ha, hb]; simp
      rw [put_size (by omega) hbz] at hm
      rw [hm]
      by_cases k1 : x < 0
      · exact .inl ⟨k1, by rw [if_pos (.inl k1)]⟩
      · right
        by_cases k2 : (s.size : Int) < x
        · exact .inl ⟨k2, by rw [if_pos (.inr k2)]⟩
        · right
          rw [if_neg (by omega)]
          by_cases k3 : x ≤ (a : Int)
          · exact .inl ⟨by omega, by omega, k3, by rw [if_pos k3]⟩
          · right
            rw [if_neg k3]
            by_cases k4 : (b : Int) ≤ x
            · exact .inl ⟨by omega, by omega, by omega, k4, by rw [if_pos k4]; congr 1; omega⟩
            · exact .inr ⟨by omega, by omega, by omega, by omega, by rw [if_neg k4]⟩

set_option maxHeartbeats 4000000 in
set_option maxRecDepth 100000 in
theorem move_any (s : ByteArray) (e : EdP) (x : Int) (w : World) (hs : s.size ≤ 1099511627776) (ht : e.t.size ≤ 1099511627776) (hT : Tabs w) :
    Calls Tryd.prog 14 #[.string s, .agg #[.int .i64 e.fl, .int .i64 e.fu, .int .i64 e.tl, .int .i64 e.tu, .string e.t], .int .i64 x] w (AnswersTwo (moveL s e x) w) := by
  obtain ⟨W, hW⟩ : ∃ W, w.alloc (.cells #[.int .i64 e.fl, .int .i64 e.fu, .int .i64 e.tl, .int .i64 e.tu, .string e.t] 32) = W := ⟨_, rfl⟩
  have hbw : Below w.heap.size w W := by rw [← hW]; exact (Below.refl _ _).alloc (Nat.le_refl _) _
  have HBX := Lib.hid (show W.heap[w.heap.size]? = some (.cells #[.int .i64 e.fl, .int .i64 e.fu, .int .i64 e.tl, .int .i64 e.tu, .string e.t] 32 (0, 0)) by rw [← hW]; exact heap_alloc_new _ _)
  have HBW := Lib.hid hbw
  have cS := span_any s e W hs ht (tabs_later hT hbw)
  obtain ⟨p0, p1, p2, p3, p4⟩ := five_cells HBX.out
  rcases move_or s e x with ⟨c, hc, h1, h2⟩ | ⟨a, b, hab, hbz, hpz, h1, h2⟩
  · rw [h1] at cS
    rw [h2]
    clear hbw hT h1 h2
    obtain ⟨fl, fu, tl, tu, t⟩ := e
    simp only at cS p0 p1 p2 p3 p4 HBX hW ⊢
    go_enter Tryd.func14, Tryd.ntmps14
    go_wp2_with fail
    refine cS.mono ?_
    rintro e w1 ⟨rfl, hb1⟩
    go_wp2_with fail
    go_ret2
    exact answersTwo rfl (next HBW.out hb1)
  · rw [h1] at cS
    obtain ⟨R, hR⟩ : ∃ R, moveL s e x = R := ⟨_, rfl⟩
    rw [hR] at h2 ⊢
    clear hbw hT h1 hR
    obtain ⟨fl, fu, tl, tu, t⟩ := e
    simp only at cS p0 p1 p2 p3 p4 HBX hW hpz h2 ⊢
    rcases h2 with ⟨k1, rfl⟩ | ⟨k1, rfl⟩ | ⟨k1, k2, k3, rfl⟩ | ⟨k1, k2, k3, k4, rfl⟩ | ⟨k1, k2, k3, k4, rfl⟩
    all_goals
      go_enter Tryd.func14, Tryd.ntmps14
      go_wp2_with fail
      refine cS.mono ?_
      rintro e w1 ⟨rfl, hb1⟩
      clear p0 p1 p2 p3 p4
      obtain ⟨p0, p1, p2, p3, p4⟩ := ed_cells HBX.out hb1
      have HB1 := Lib.hid (next HBW.out hb1)
      clear hb1 cS hW
      go_wp2_with fail
      go_ret2
      exact answersTwo (by first | rfl | (congr 1; omega)) HB1.out
end Go.Proofs.YtlmefchcljfjlaaDoor.E

/- The contract of the document's own Move of layer 6; edits that a call makes of its own. -/
import Derived.Test.YtlmefchcljfjlaaDoorERef1
import Derived.Test.YtlmefchcljfjlaaDoorEMove
namespace Go.Proofs.YtlmefchcljfjlaaDoor.E
open Go.RowKit
open Go.Lib hiding intOf
open Go.Proofs.YtlmefchcljfjlaaDoor.U Go.Proofs.YtlmefchcljfjlaaDoor.L

/-- Edits that lie in a block of their own. -/
theorem eds_cells {W : World} {l : List EdP} {q cap : Nat} {xs : Array Value} {t : TypeId} (h : W.heap[q]? = some (.cells xs t (0, 0))) (hx : xs.toList = edCs l) : EdsIn W l (.slice (some ⟨q, 0, none⟩) l.length cap) := by
  refine ⟨_, cap, rfl, .inr ⟨q, 0, rfl, (Array.getElem?_eq_some_iff.1 h).1, fun j u hj => ?_⟩⟩
  rw [← hx, Array.getElem?_toList] at hj
  unfold World.cell?
  rw [h]
  simpa using hj
theorem one_take {s : ByteArray} {e : EdP} (hs : s.size ≤ 400) (i : Nat) (hi : i < [e].length) : s.size + sumT ([e].take i) ≤ 400 := by
  obtain rfl : i = 0 := by simpa using hi
  simpa [sumT] using hs
theorem move_or2 {s : ByteArray} {e : EdP} (x : Int) (hz : s.size ≤ 400) (hz2 : e.t.size ≤ 400) :
    (∃ c : Int, (c == 0) = false ∧ applyL s [e] = (⟨#[]⟩, c) ∧ moveL s e x = (0, c)) ∨
    (∃ (a b : Nat) (r : ByteArray), a ≤ b ∧ b ≤ s.size ∧ r.size ≤ 800 ∧ applyL s [e] = (r, 0) ∧ endsL s e = ((a : Int), (b : Int), 0) ∧
      ((x < 0 ∧ moveL s e x = (0, 51)) ∨ ((s.size : Int) < x ∧ moveL s e x = (0, 51)) ∨ (0 ≤ x ∧ x ≤ s.size ∧ x ≤ (a : Int) ∧ moveL s e x = (x, 0)) ∨
        (0 ≤ x ∧ x ≤ s.size ∧ (a : Int) < x ∧ (b : Int) ≤ x ∧ moveL s e x = ((r.size : Int) - ((s.size : Int) - x), 0)) ∨ (0 ≤ x ∧ x ≤ s.size ∧ (a : Int) < x ∧ x < (b : Int) ∧ moveL s e x = ((a : Int) + e.t.size, 0)))) := by
  cases hok : okB s with
  | false =>
    have : applyL s [e] = (⟨#[]⟩, 11) := by unfold applyL; rw [if_neg (by rw [hok]; simp)]
    exact .inl ⟨11, rfl, this, by unfold moveL; rw [this]; simp⟩
  | true =>
    rcases ends_step (x := s) (e := e) hok (by omega) with ⟨c, hc, h1, h2⟩ | ⟨a, b, hab, hbz, hpz, _, h1, h2, ha, hb⟩
    · refine .inl ⟨c, hc, by rw [applyL_one hok, h2], ?_⟩
      unfold moveL; rw [applyL_one hok, h2]
      have hc' : ¬ c = 0 := by simpa using hc
      simp only; rw [if_pos hc']
    · refine .inr ⟨a, b, put s a b e.t, hab, hbz, by omega, by rw [applyL_one hok, h2], h1, ?_⟩
      have hm : moveL s e x = if x < 0 ∨ (s.size : Int) < x then (0, 51) else if x ≤ (a : Int) then (x, 0) else if (b : Int) ≤ x then (((put s a b e.t).size : Int) - ((s.size : Int) - x), 0) else ((a : Int) + e.t.size, 0) := by
        unfold moveL; rw [applyL_one hok, h2, ha, hb]; simp
      rw [hm]
      by_cases k1 : x < 0
      · exact .inl ⟨k1, by rw [if_pos (.inl k1)]⟩
      · right
        by_cases k2 : (s.size : Int) < x
        · exact .inl ⟨k2, by rw [if_pos (.inr k2)]⟩
        · right
          rw [if_neg (by omega)]
          by_cases k3 : x ≤ (a : Int)
          · exact .inl ⟨by omega, by omega, k3, by rw [if_pos k3]⟩
          · right
            rw [if_neg k3]
            by_cases k4 : (b : Int) ≤ x
            · exact .inl ⟨by omega, by omega, by omega, k4, by rw [if_pos k4]⟩
            · exact .inr ⟨by omega, by omega, by omega, by omega, by rw [if_neg k4]⟩

set_option maxHeartbeats 4000000 in
set_option maxRecDepth 100000 in
theorem refMove_any (s : ByteArray) (e : EdP) (x : Int) (w : World) (hs : s.size ≤ 400) (ht : e.t.size ≤ 400) :
    Calls Tryd.prog 15 #[.string s, .agg #[.int .i64 e.fl, .int .i64 e.fu, .int .i64 e.tl, .int .i64 e.tu, .string e.t], .int .i64 x] w (AnswersTwo (moveL s e x) w) := by
  obtain ⟨W, hW⟩ : ∃ W, w.alloc (.cells #[.int .i64 e.fl, .int .i64 e.fu, .int .i64 e.tl, .int .i64 e.tu, .string e.t] 32) = W := ⟨_, rfl⟩
  have hbw : Below w.heap.size w W := by rw [← hW]; exact (Below.refl _ _).alloc (Nat.le_refl _) _
  have HBX := Lib.hid (show W.heap[w.heap.size]? = some (.cells #[.int .i64 e.fl, .int .i64 e.fu, .int .i64 e.tl, .int .i64 e.tu, .string e.t] 32 (0, 0)) by rw [← hW]; exact heap_alloc_new _ _)
  have HBW := Lib.hid hbw
  obtain ⟨p0, p1, p2, p3, p4⟩ := five_cells HBX.out
  obtain ⟨W2, hW2⟩ : ∃ W2, W.alloc (.cells #[.int .i64 e.fl, .int .i64 e.fu, .int .i64 e.tl, .int .i64 e.tu, .string e.t] 32) = W2 := ⟨_, rfl⟩
  have hb2 : Below W.heap.size W W2 := by rw [← hW2]; exact (Below.refl _ _).alloc (Nat.le_refl _) _
  have hx2 : W2.heap[W.heap.size]? = some (.cells #[.int .i64 e.fl, .int .i64 e.fu, .int .i64 e.tl, .int .i64 e.tu, .string e.t] 32 (0, 0)) := by rw [← hW2]; exact heap_alloc_new _ _
  have cA := refApply_any [e] s (.slice (some ⟨W.heap.size, 0, none⟩) 1 1) W2 hs (one_take hs) (by simpa using ht) (by simp) (eds_cells (l := [e]) hx2 rfl)
  have HB2 := Lib.hid hb2
  rcases move_or2 (s := s) (e := e) x hs ht with ⟨c, hc, h1, h2⟩ | ⟨a, b, r, hab, hbz, hrz, h1, h3, h2⟩
  · rw [h1] at cA
    rw [h2]
    clear hbw h1 h2 hx2 hb2
    obtain ⟨fl, fu, tl, tu, t⟩ := e
    simp only at cA p0 p1 p2 p3 p4 HBX hW hW2 ⊢
    go_enter Tryd.func15, Tryd.ntmps15
    go_wp2_with fail
    refine cA.mono ?_
    rintro e w1 ⟨rfl, hb1⟩
    go_wp2_with fail
    go_ret2
    exact answersTwo rfl (next HBW.out (next HB2.out hb1))
  · rw [h1] at cA
    obtain ⟨R, hR⟩ : ∃ R, moveL s e x = R := ⟨_, rfl⟩
    rw [hR] at h2 ⊢
    have cE := fun W' => ends_any s e W' hs ht
    rw [h3] at cE
    clear hbw h1 hR hx2 hb2 h3
    obtain ⟨fl, fu, tl, tu, t⟩ := e
    simp only at cA p0 p1 p2 p3 p4 HBX hW hW2 h2 cE ht ⊢
    have CE := Lib.hid cE
    clear cE
    rcases h2 with ⟨k1, rfl⟩ | ⟨k1, rfl⟩ | ⟨k1, k2, k3, rfl⟩ | ⟨k1, k2, k3, k4, rfl⟩ | ⟨k1, k2, k3, k4, rfl⟩
    all_goals
      go_enter Tryd.func15, Tryd.ntmps15
      go_wp2_with fail
      refine cA.mono ?_
      rintro e w1 ⟨rfl, hb1⟩
      clear p0 p1 p2 p3 p4
      have HB1 := Lib.hid (next HB2.out hb1)
      obtain ⟨p0, p1, p2, p3, p4⟩ := ed_cells HBX.out HB1.out
      clear hb1 cA hW hW2
      go_wp2_with fail
      refine (CE.out w1).mono ?_
      rintro e w2 ⟨rfl, hb2⟩
      clear p0 p1 p2 p3 p4
      have HB2 := Lib.hid (next HB1.out hb2)
      obtain ⟨p0, p1, p2, p3, p4⟩ := ed_cells HBX.out HB2.out
      clear hb2 CE
      go_wp2_with fail
      go_ret2
      exact answersTwo (by first | rfl | (congr 1; omega)) (next HBW.out HB2.out)
end Go.Proofs.YtlmefchcljfjlaaDoor.E

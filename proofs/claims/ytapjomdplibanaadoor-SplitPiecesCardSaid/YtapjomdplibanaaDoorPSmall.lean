/- Contracts of package scan's Key, Ends, sortOf and its sorts of scalars. -/
import Derived.Test.YtapjomdplibanaaDoorPPlain
namespace Go.Proofs.YtapjomdplibanaaDoor.S
open Go.RowKit
open Go.Lib hiding intOf
open Go.Proofs.YtapjomdplibanaaDoor.U Go.Proofs.YtapjomdplibanaaDoor.L

set_option maxRecDepth 20000 in
theorem line_any (r : Nat) (w : World) : Calls Tryd.prog 42 #[.int .i32 r] w fun e w' => e = .returned (.bool (rLine r)) ∧ w = w' := by
  obtain ⟨R, hR⟩ : ∃ R, rLine r = R := ⟨_, rfl⟩
  have HR := Lib.hid hR
  rw [hR]
  clear hR
  go_enter Tryd.func42, Tryd.ntmps42
  go_wp2_with fail
  all_goals (go_ret; exact ⟨retB (by rw [← HR.out, Bool.eq_iff_iff]; simp [rLine]; omega), rfl⟩)
set_option maxRecDepth 20000 in
theorem inQuo_any (r : Nat) (w : World) : Calls Tryd.prog 55 #[.int .i32 r] w fun e w' => e = .returned (.bool (rQuo r)) ∧ w = w' := by
  obtain ⟨R, hR⟩ : ∃ R, rQuo r = R := ⟨_, rfl⟩
  have HR := Lib.hid hR
  rw [hR]
  clear hR
  go_enter Tryd.func55, Tryd.ntmps55
  go_wp2_with fail
  all_goals (go_ret; exact ⟨retB (by rw [← HR.out, Bool.eq_iff_iff]; simp [rQuo]; omega), rfl⟩)
set_option maxRecDepth 20000 in
theorem fig_any (r : Nat) (w : World) : Calls Tryd.prog 46 #[.int .i32 r] w fun e w' => e = .returned (.bool (rFig r)) ∧ w = w' := by
  obtain ⟨R, hR⟩ : ∃ R, rFig r = R := ⟨_, rfl⟩
  have HR := Lib.hid hR
  rw [hR]
  clear hR
  go_enter Tryd.func46, Tryd.ntmps46
  go_wp2_with fail
  all_goals (go_ret; exact ⟨retB (by rw [← HR.out, Bool.eq_iff_iff]; simp [rFig]; omega), rfl⟩)
set_option maxRecDepth 20000 in
theorem lett_any (r : Nat) (w : World) : Calls Tryd.prog 43 #[.int .i32 r] w fun e w' => e = .returned (.bool (rLett r)) ∧ w = w' := by
  obtain ⟨R, hR⟩ : ∃ R, rLett r = R := ⟨_, rfl⟩
  have HR := Lib.hid hR
  rw [hR]
  clear hR
  go_enter Tryd.func43, Tryd.ntmps43
  go_wp2_with fail
  all_goals (go_ret; exact ⟨retB (by rw [← HR.out, Bool.eq_iff_iff]; simp [rLett]; omega), rfl⟩)
def rBlank (r : Nat) : Bool := decide (r = 32 ∨ r = 9 ∨ r = 13)
set_option maxRecDepth 20000 in
theorem blank_any (r : Nat) (w : World) : Calls Tryd.prog 39 #[.int .i32 r] w fun e w' => e = .returned (.bool (rBlank r)) ∧ w = w' := by
  obtain ⟨R, hR⟩ : ∃ R, rBlank r = R := ⟨_, rfl⟩
  have HR := Lib.hid hR
  rw [hR]
  clear hR
  go_enter Tryd.func39, Tryd.ntmps39
  go_wp2_with fail
  all_goals (go_ret; exact ⟨retB (by rw [← HR.out, Bool.eq_iff_iff]; simp [rBlank]; omega), rfl⟩)
set_option maxRecDepth 20000 in
theorem inName_any (r : Nat) (w : World) : Calls Tryd.prog 44 #[.int .i32 r] w fun e w' => e = .returned (.bool (rName r)) ∧ w = w' := by
  have c1 := lett_any r w
  have c2 := fun X => fig_any r X
  unfold rName
  cases ha : rLett r
  · rw [ha] at c1
    clear ha
    go_enter Tryd.func44, Tryd.ntmps44
    go_wp2_with fail
    refine c1.mono ?_
    rintro e w2 ⟨rfl, rfl⟩
    go_wp2_with fail
    refine (c2 w).mono ?_
    rintro e w2 ⟨rfl, rfl⟩
    go_wp2_with fail
    go_ret
    exact ⟨rfl, rfl⟩
  · rw [ha] at c1
    clear ha
    go_enter Tryd.func44, Tryd.ntmps44
    go_wp2_with fail
    refine c1.mono ?_
    rintro e w2 ⟨rfl, rfl⟩
    go_wp2_with fail
    go_ret
    exact ⟨rfl, rfl⟩
set_option maxRecDepth 20000 in
theorem pkey_any (s : ByteArray) (w : World) : Calls Tryd.prog 54 #[.string s] w fun e w' => e = .returned (.bool (keyB s.toList)) ∧ w = w' := by
  obtain ⟨R, hR⟩ : ∃ R, keyB s.toList = R := ⟨_, rfl⟩
  have HR := Lib.hid hR
  rw [hR]
  clear hR
  go_enter Tryd.func54, Tryd.ntmps54
  go_wp2_with fail
  all_goals (go_ret; exact ⟨retB (by first | (exfalso; simp_all; done) | (rw [← HR.out]; simp only [keyB, *]; rfl)), rfl⟩)
set_option maxHeartbeats 4000000 in
set_option maxRecDepth 20000 in
theorem pends_any (k f e' : Int) (t : ByteArray) (w : World) : Calls Tryd.prog 49 #[.agg #[.int .i64 k, .string t, .int .i64 f, .int .i64 e']] w fun e w' => e = .returned (.bool (endsP k t.toList)) ∧ Below w.heap.size w w' := by
  obtain ⟨R, hR⟩ : ∃ R, endsP k t.toList = R := ⟨_, rfl⟩
  rw [hR]
  unfold endsP at hR
  have HR := Lib.hid hR
  clear hR
  go_enter Tryd.func49, Tryd.ntmps49
  go_wp2_with fail
  all_goals (go_ret; refine ⟨retB (by first | (exfalso; simp_all; done) | (exfalso; omega) | (rw [← HR.out]; simp [*]; done) | (rw [← HR.out]; simp_all; done) | (rw [← HR.out]; simp; omega)), (Below.refl _ _).alloc (Nat.le_refl _) _⟩)
set_option maxRecDepth 20000 in
theorem sortOf_any (s : ByteArray) (w : World) : Calls Tryd.prog 45 #[.string s] w fun e w' => e = .returned (.int .i64 (if keyB s.toList then 3 else 0)) ∧ w = w' := by
  have c1 := pkey_any s w
  cases hb : keyB s.toList
  · rw [hb] at c1
    clear hb
    go_enter Tryd.func45, Tryd.ntmps45
    go_wp2_with fail
    refine c1.mono ?_
    rintro e w2 ⟨rfl, rfl⟩
    go_wp2_with fail
    go_ret
    exact ⟨rfl, rfl⟩
  · rw [hb] at c1
    clear hb
    go_enter Tryd.func45, Tryd.ntmps45
    go_wp2_with fail
    refine c1.mono ?_
    rintro e w2 ⟨rfl, rfl⟩
    go_wp2_with fail
    go_ret
    exact ⟨rfl, rfl⟩
end Go.Proofs.YtapjomdplibanaaDoor.S

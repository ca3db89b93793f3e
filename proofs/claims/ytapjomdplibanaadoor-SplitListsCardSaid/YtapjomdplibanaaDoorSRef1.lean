/- Contracts of the document's own answers for layer 8: figure, letter, Key, Ends. -/
import Derived.Test.YtapjomdplibanaaDoorSAgain
import Derived.Test.YtapjomdplibanaaDoorProg
import Derived.WalkKit
import Derived.WalkMore
import Derived.WalkSmall
import Derived.Below
import Derived.Lib.Hide
namespace Go.Proofs.YtapjomdplibanaaDoor.S
open Go.RowKit
open Go.Lib
open Go.Proofs.YtapjomdplibanaaDoor.U

theorem retB {a b : Bool} (h : a = b) : Ending.returned (.bool a) = .returned (.bool b) := by rw [h]
set_option maxRecDepth 20000 in
theorem figure_any (c : UInt8) (w : World) : Calls Tryd.prog 51 #[.int .u8 (c.toNat : Nat)] w fun e w' => e = .returned (.bool (figu c)) ∧ w = w' := by
  have hf : figu c = decide (48 ≤ c.toNat ∧ c.toNat ≤ 57) := by unfold figu; simp [UInt8.le_iff_toNat_le]
  rw [hf]
  generalize c.toNat = n
  obtain ⟨R, hR⟩ : ∃ R, decide (48 ≤ n ∧ n ≤ 57) = R := ⟨_, rfl⟩
  have HR := Lib.hid hR
  rw [hR]
  clear hR
  go_enter Tryd.func51, Tryd.ntmps51
  go_wp2_with fail
  all_goals (go_ret; exact ⟨retB (by rw [← HR.out, Bool.eq_iff_iff]; simp; omega), rfl⟩)
set_option maxRecDepth 20000 in
theorem letter_any (c : UInt8) (w : World) : Calls Tryd.prog 50 #[.int .u8 (c.toNat : Nat)] w fun e w' => e = .returned (.bool (lett c)) ∧ w = w' := by
  have hf : lett c = decide ((97 ≤ c.toNat ∧ c.toNat ≤ 122) ∨ (65 ≤ c.toNat ∧ c.toNat ≤ 90) ∨ c.toNat = 95) := by
    unfold lett
    have : decide (c = 95) = decide (c.toNat = 95) := by
      rw [decide_eq_decide]
      exact ⟨fun h => by rw [h]; rfl, fun h => UInt8.toNat_inj.1 h⟩
    rw [this]
    simp [UInt8.le_iff_toNat_le, Bool.or_assoc]
  rw [hf]
  generalize c.toNat = n
  obtain ⟨R, hR⟩ : ∃ R, decide ((97 ≤ n ∧ n ≤ 122) ∨ (65 ≤ n ∧ n ≤ 90) ∨ n = 95) = R := ⟨_, rfl⟩
  have HR := Lib.hid hR
  rw [hR]
  clear hR
  go_enter Tryd.func50, Tryd.ntmps50
  go_wp2_with fail
  all_goals (go_ret; exact ⟨retB (by rw [← HR.out, Bool.eq_iff_iff]; simp; omega), rfl⟩)
set_option maxRecDepth 20000 in
theorem key_any (s : ByteArray) (w : World) : Calls Tryd.prog 34 #[.string s] w fun e w' => e = .returned (.bool (keyB s.toList)) ∧ w = w' := by
  obtain ⟨R, hR⟩ : ∃ R, keyB s.toList = R := ⟨_, rfl⟩
  have HR := Lib.hid hR
  rw [hR]
  clear hR
  go_enter Tryd.func34, Tryd.ntmps34
  go_wp2_with fail
  all_goals (go_ret; exact ⟨retB (by first | (exfalso; simp_all; done) | (rw [← HR.out]; simp only [keyB, *]; rfl)), rfl⟩)
theorem tk_cells {W : World} {k : Nat} {a b c d : Value} {t : TypeId} (h : W.heap[k]? = some (.cells #[a, b, c, d] t (0, 0))) :
    W.cell? ⟨k, 0, none⟩ = some a ∧ W.cell? ⟨k, 1, none⟩ = some b ∧ W.cell? ⟨k, 2, none⟩ = some c ∧ W.cell? ⟨k, 3, none⟩ = some d := by
  refine ⟨?_, ?_, ?_, ?_⟩ <;> (unfold World.cell?; rw [h]; rfl)
set_option maxHeartbeats 4000000 in
set_option maxRecDepth 20000 in
theorem ends_any (k f e' : Int) (t : ByteArray) (w : World) : Calls Tryd.prog 24 #[.agg #[.int .i64 k, .string t, .int .i64 f, .int .i64 e']] w fun e w' => e = .returned (.bool (endsP k t.toList)) ∧ Below w.heap.size w w' := by
  obtain ⟨R, hR⟩ : ∃ R, endsP k t.toList = R := ⟨_, rfl⟩
  rw [hR]
  unfold endsP at hR
  have HR := Lib.hid hR
  clear hR
  go_enter Tryd.func24, Tryd.ntmps24
  go_wp2_with fail
  all_goals (go_ret; refine ⟨retB (by first | (exfalso; simp_all; done) | (exfalso; omega) | (rw [← HR.out]; simp [*]; done) | (rw [← HR.out]; simp_all; done) | (rw [← HR.out]; simp; omega)), (Below.refl _ _).alloc (Nat.le_refl _) _⟩)
end Go.Proofs.YtapjomdplibanaaDoor.S

/- Places compared; New, where its answer is known (for seats without layer 5's own statements). -/
import Derived.Test.YtccmicmlkgkheaaDoorLOff
import Derived.Laws.StructEq
namespace Go.Proofs.YtccmicmlkgkheaaDoor.L
open Go.RowKit
open Go.Lib hiding intOf
open Go.Proofs.YtccmicmlkgkheaaDoor.U

theorem place_eq (d : Nat) (a b a' b' : Int) (W : World) : (Op.equalIn (d + 1 + 1) 54 (.agg #[.int .i64 a, .int .i64 b]) (.agg #[.int .i64 a', .int .i64 b'])).run Tryd.prog W = .ok (a == a' && b == b') W := by
  rw [run_equalIn_agg _ _ _ _ _ (by kernel_rfl) (by kernel_rfl)]
  cases h : (a == a') <;> cases h2 : (b == b') <;> simp [Op.eqFields, go_sem, h] <;> simpa using h2
theorem eql_place (a b a' b' : Int) (W : World) : (binOp .eql 54 (.agg #[.int .i64 a, .int .i64 b]) (.agg #[.int .i64 a', .int .i64 b'])).run Tryd.prog W = .ok (.bool (a == a' && b == b')) W := by
  rw [run_eql_struct, show (10000 : Nat) = 9998 + 1 + 1 from rfl, place_eq]; rfl

def True' (w : World) (e : Ending) (w' : World) : Prop := e = .returned (.bool true) ∧ Below w.heap.size w w'
theorem tabs_later {w w' : World} (hT : Tabs w) (hb : Below w.heap.size w w') : Tabs w' := Utf8Tabs_below hT hb

theorem new_ok (s : ByteArray) (w : World) (hs : s.size ≤ 1099511627776) (hT : Tabs w) (hok : okB s = true) :
    Calls Tryd.prog 47 #[.string s] w fun e w' => ∃ b v, e = .returned (.tuple #[.pointer (some ⟨b, 0, none⟩), .int .i64 0]) ∧ Idx b s v w' ∧ Below w.heap.size w w' := by
  refine (new_any s w hs hT).mono ?_
  rintro e w1 ⟨hb1, ⟨_, b, v, rfl, hi, _⟩ | ⟨hf, _⟩⟩
  · exact ⟨b, v, rfl, hi, hb1⟩
  · rw [hok] at hf; cases hf
theorem new_no (s : ByteArray) (w : World) (hs : s.size ≤ 1099511627776) (hT : Tabs w) (hok : okB s = false) :
    Calls Tryd.prog 47 #[.string s] w fun e w' => e = .returned (.tuple #[.pointer none, .int .i64 11]) ∧ Below w.heap.size w w' := by
  refine (new_any s w hs hT).mono ?_
  rintro e w1 ⟨hb1, ⟨hf, _⟩ | ⟨_, rfl⟩⟩
  · rw [hok] at hf; cases hf
  · exact ⟨rfl, hb1⟩

end Go.Proofs.YtccmicmlkgkheaaDoor.L

/- The contracts of Read, Same, Write and Right at one value, in handy form. -/
import Derived.Test.YtfjdeacpdcnjpaaDoorVBits
namespace Go.Proofs.YtfjdeacpdcnjpaaDoor.V
open Go.RowKit
open Go.Lib

/-- A value's cells, its parts at a1, its keys at a2. -/
def cellsV (so : Int) (on : Bool) (n : Int) (t : List UInt8) (m1 m2 : Nat) (a1 a2 : Option Addr) (c1 c2 : Nat) : Array Value := #[.int .i64 so, .bool on, .int .i64 n, .string ⟨t.toArray⟩, .slice a1 m1 c1, .slice a2 m2 c2]

section
variable {so n : Int} {on : Bool} {t : List UInt8} {l : List Val} {ks : List (List UInt8)}
theorem read_v {S : ByteArray} (hr : readB S = .ok (.mk so on n t l ks)) (hS : S.size ≤ 274877906944) (W : World) (hE : EnvW W) :
    Calls Tryd.prog 11 #[.string S] W fun e w' => Below W.heap.size W w' ∧ ∃ a1 c1 a2 c2, e = .returned (.tuple #[.agg #[.int .i64 so, .bool on, .int .i64 n, .string ⟨t.toArray⟩, .slice a1 l.length c1, .slice a2 ks.length c2], .int .i64 0]) ∧ ValIn w' (fun g => W.heap.size ≤ g) (.mk so on n t l ks) (.slice a1 l.length c1) (.slice a2 ks.length c2) := by
  have h := read_any S W hS hE
  rw [hr] at h
  refine h.mono ?_
  rintro e w' ⟨hb, lv, kv, rfl, hv⟩
  have hv2 := hv
  obtain ⟨⟨a1, c1, rfl, _⟩, ⟨a2, c2, rfl, _⟩⟩ := hv2
  exact ⟨hb, a1, c1, a2, c2, rfl, hv⟩
theorem same_v2 (hw : wt (.mk so on n t l ks) ≤ 65536) (W : World) (R R' : Nat → Prop) (a1 a2 b1 b2 : Option Addr) (c1 c2 d1 d2 : Nat) (h : ValIn W R (.mk so on n t l ks) (.slice a1 l.length c1) (.slice a2 ks.length c2)) (h' : ValIn W R' (.mk so on n t l ks) (.slice b1 l.length d1) (.slice b2 ks.length d2)) :
    Calls Tryd.prog 12 #[.agg #[.int .i64 so, .bool on, .int .i64 n, .string ⟨t.toArray⟩, .slice a1 l.length c1, .slice a2 ks.length c2], .agg #[.int .i64 so, .bool on, .int .i64 n, .string ⟨t.toArray⟩, .slice b1 l.length d1, .slice b2 ks.length d2]] W fun e w' => e = .returned (.bool true) ∧ Below W.heap.size W w' := by
  have hs := same_top so so on on n n t t l l ks ks _ _ _ _ R R' W h h' (by omega) (by omega)
  have e : sameTop (.mk so on n t l ks) (.mk so on n t l ks) = true := by
    unfold sameTop
    rw [nestP_wt _ _ hw, sameP_self]; rfl
  rw [e] at hs
  exact hs
theorem write_v2 (hr : rightTop (.mk so on n t l ks) = true) (hw : wt (.mk so on n t l ks) ≤ 1099511627776) (W : World) (R : Nat → Prop) (a1 a2 : Option Addr) (c1 c2 : Nat) (h : ValIn W R (.mk so on n t l ks) (.slice a1 l.length c1) (.slice a2 ks.length c2)) (hE : EnvW W) :
    Calls Tryd.prog 8 #[.agg #[.int .i64 so, .bool on, .int .i64 n, .string ⟨t.toArray⟩, .slice a1 l.length c1, .slice a2 ks.length c2]] W fun e w' => e = .returned (.tuple #[.string ⟨(write (.mk so on n t l ks)).toArray⟩, .int .i64 0]) ∧ Below W.heap.size W w' := by
  have hrp : rightP (.mk so on n t l ks) = true := by simp only [rightTop, Bool.and_eq_true] at hr; exact hr.2
  have hl := write_le _ hrp
  refine (write_top so on n t l ks _ _ R W h hw (by omega) hE).mono ?_
  rintro e w' ⟨h1, h2⟩
  rw [hr, if_pos rfl] at h2
  exact ⟨h2, h1⟩
theorem right_v2 (W : World) (R : Nat → Prop) (hw : wt (.mk so on n t l ks) ≤ 1099511627776) (a1 a2 : Option Addr) (c1 c2 : Nat) (h : ValIn W R (.mk so on n t l ks) (.slice a1 l.length c1) (.slice a2 ks.length c2)) (hE : EnvW W) :
    Calls Tryd.prog 10 #[.agg #[.int .i64 so, .bool on, .int .i64 n, .string ⟨t.toArray⟩, .slice a1 l.length c1, .slice a2 ks.length c2]] W fun e w' => e = .returned (.bool (rightTop (.mk so on n t l ks))) ∧ Below W.heap.size W w' :=
  right_top so on n t l ks _ _ R W h hw hE
end

theorem val_below {W W' : World} {R : Nat → Prop} {v : Val} {lv kv : Value} (h : ValIn W R v lv kv) (hb : Below W.heap.size W W') : ValIn W' R v lv kv := h.later (fun b _ hlt => hb.block b hlt) (fun _ h => h) _ _ _
end Go.Proofs.YtfjdeacpdcnjpaaDoor.V

/- The contract of Same. -/
import Derived.Test.YtfjdeacpdcnjpaaGreatDoorVSame
namespace Go.Proofs.YtfjdeacpdcnjpaaGreatDoor.V
open Go.RowKit
open Go.Lib

/-- What Same answers. -/
def sameTop (v v' : Val) : Bool := nestP v 65536 && sameP v v'

set_option maxHeartbeats 1000000 in
theorem same_top (so so' : Int) (on on' : Bool) (n n' : Int) (t t' : List UInt8) (l l' : List Val) (ks ks' : List (List UInt8)) (lv kv lv' kv' : Value) (R R' : Nat → Prop) (w : World) (hv : ValIn w R (.mk so on n t l ks) lv kv) (hv' : ValIn w R' (.mk so' on' n' t' l' ks') lv' kv')
    (hw : wt (.mk so on n t l ks) ≤ 1099511627776) (hw' : wt (.mk so' on' n' t' l' ks') ≤ 1099511627776) :
    Calls Tryz.prog 15 #[arg (.mk so on n t l ks) lv kv, arg (.mk so' on' n' t' l' ks') lv' kv'] w fun e w' => e = .returned (.bool (sameTop (.mk so on n t l ks) (.mk so' on' n' t' l' ks'))) ∧ Below w.heap.size w w' := by
  have cN := fun W (hb : Below w.heap.size w W) => nest_any (.mk so on n t l ks) lv kv R 65536 W (hv.later (fun b _ hb' => hb.block b hb') (fun _ h => h) _ _ _) (by omega) hw
  have cR := fun W (hb : Below w.heap.size w W) => same_v (.mk so on n t l ks) (.mk so' on' n' t' l' ks') lv kv lv' kv' R R' W (hv.later (fun b _ hb' => hb.block b hb') (fun _ h => h) _ _ _) (hv'.later (fun b _ hb' => hb.block b hb') (fun _ h => h) _ _ _) hw hw'
  have hx := hv
  obtain ⟨⟨a1, c1, rfl, _⟩, ⟨a2, c2, rfl, _⟩⟩ := hx
  have hx' := hv'
  obtain ⟨⟨a1', c1', rfl, _⟩, ⟨a2', c2', rfl, _⟩⟩ := hx'
  unfold sameTop
  generalize nestP (.mk so on n t l ks) 65536 = b1 at cN ⊢
  generalize sameP (.mk so on n t l ks) (.mk so' on' n' t' l' ks') = b2 at cR ⊢
  simp only [arg, six', six, strCell] at cN cR ⊢
  have HR := Lib.hid cR
  clear hv hw hv' hw' cR
  go_enter Tryz.func15, Tryz.ntmps15
  go_wp2_with fail
  obtain ⟨t1, t2, tb, tz⟩ := two w (.cells #[Value.int IntKind.i64 so, Value.bool on, Value.int IntKind.i64 n, Value.string { data := t.toArray }, Value.slice a1 l.length c1, Value.slice a2 ks.length c2] 34) (.cells #[Value.int IntKind.i64 so', Value.bool on', Value.int IntKind.i64 n', Value.string { data := t'.toArray }, Value.slice a1' l'.length c1', Value.slice a2' ks'.length c2'] 34)
  refine (cN _ tb).mono ?_
  rintro e w1 ⟨rfl, hb1⟩
  have HB1 := Lib.hid (tb.trans (hb1.mono (by omega)))
  have hx := (hb1.block w.heap.size (by omega)).trans t1
  have hy := (hb1.block (w.heap.size + 1) (by omega)).trans t2
  obtain ⟨⟨j0, j1, j2, j3, j4, j5⟩, jf⟩ := cells_six hx
  obtain ⟨⟨k0, k1, k2, k3, k4, k5⟩, kf⟩ := cells_six hy
  clear cN hb1 hx hy t1 t2 tb tz
  cases b1 with
  | false =>
    go_wp2_with fail
    go_ret
    exact ⟨rfl, HB1.out⟩
  | true =>
    have cT := HR.out w1 HB1.out
    go_wp2_with fail
    refine cT.mono ?_
    rintro e w3 ⟨rfl, hb3⟩
    have HB3 := Lib.hid (HB1.out.trans (hb3.mono HB1.out.size))
    clear cT hb3
    go_wp2_with fail
    go_ret
    exact ⟨rfl, HB3.out⟩
end Go.Proofs.YtfjdeacpdcnjpaaGreatDoor.V

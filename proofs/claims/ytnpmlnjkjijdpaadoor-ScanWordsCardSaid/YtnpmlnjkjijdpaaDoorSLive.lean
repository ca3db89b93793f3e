/- What is asked of the program's own scanner (Prg), and law 08's alive under it. -/
import Derived.Test.YtnpmlnjkjijdpaaDoorSSame
import Derived.Test.YtnpmlnjkjijdpaaDoorWalksR
namespace Go.Proofs.YtnpmlnjkjijdpaaDoor.S
open Go.RowKit
open Go.Lib hiding intOf
open Go.Proofs.YtnpmlnjkjijdpaaDoor.U Go.Proofs.YtnpmlnjkjijdpaaDoor.L

structure Prg : Prop where
  scan : ∀ (s : ByteArray) (w : World), s.size ≤ 1099511627776 → Tabs w → Calls Tryd.prog 9 #[.string s] w fun e w' => ∃ v, e = .returned v ∧ ToksIn w.heap.size w' (scanB (okB s) s.toList) v ∧ Below w.heap.size w w'
  brief : ∀ (B : Nat) (l : List TokP) (v : Value) (w : World), ToksIn B w l v → l.length ≤ 1000000 → (briefL l).length ≤ 1000000000 → Calls Tryd.prog 12 #[v] w fun e w' => e = .returned (.string ⟨(briefL l).toArray⟩) ∧ Below w.heap.size w w'
  key : ∀ (s : ByteArray) (w : World), s.size ≤ 1000000 → Calls Tryd.prog 14 #[.string s] w fun e w' => e = .returned (.bool (keyB s.toList)) ∧ Below w.heap.size w w'
  ends : ∀ (k f e' : Int) (t : ByteArray) (w : World), t.size ≤ 1000000 → Calls Tryd.prog 16 #[.agg #[.int .i64 k, .string t, .int .i64 f, .int .i64 e']] w fun e w' => e = .returned (.bool (endsP k t.toList)) ∧ Below w.heap.size w w'
def lit : ByteArray := ⟨#[120, 32, 58, 61, 32, 38, 121, 57, 32, 47, 47, 32, 110, 111, 10, 114, 101, 116, 117, 114, 110, 10, 9, 34, 97, 34, 32, 34]⟩
def litT : List TokP := [⟨0, [120], 0, 1⟩, ⟨4, [58, 61], 2, 4⟩, ⟨4, [38], 5, 6⟩, ⟨0, [121, 57], 6, 8⟩, ⟨5, [], 14, 15⟩, ⟨3, [114, 101, 116, 117, 114, 110], 15, 21⟩, ⟨5, [], 21, 22⟩, ⟨2, [34, 97, 34], 23, 26⟩, ⟨4, [34], 27, 28⟩]
theorem lit_scan : scanB (okB lit) lit.toList = litT := by
  rw [show okB lit = true by kernel_rfl, ByteArray.toList_eq]
  kernel_rfl
theorem lit_brief : (⟨(briefL litT).toArray⟩ : ByteArray) = ⟨#[120, 32, 58, 61, 32, 38, 32, 121, 57, 32, 59, 32, 114, 101, 116, 117, 114, 110, 32, 59, 32, 34, 97, 34, 32, 34]⟩ := by kernel_rfl
theorem lit_cells {W : World} {g off : Nat} (h : ToksAt W g off litT) :
    (W.cell? ⟨g, off + 12, none⟩ = some (.int .i64 0) ∧ W.cell? ⟨g, off + 13, none⟩ = some (.string ⟨#[121, 57]⟩) ∧ W.cell? ⟨g, off + 14, none⟩ = some (.int .i64 6) ∧ W.cell? ⟨g, off + 15, none⟩ = some (.int .i64 8)) ∧
    (W.cell? ⟨g, off + 20, none⟩ = some (.int .i64 3) ∧ W.cell? ⟨g, off + 21, none⟩ = some (.string ⟨#[114, 101, 116, 117, 114, 110]⟩) ∧ W.cell? ⟨g, off + 22, none⟩ = some (.int .i64 15) ∧ W.cell? ⟨g, off + 23, none⟩ = some (.int .i64 21)) ∧
    (W.cell? ⟨g, off + 24, none⟩ = some (.int .i64 5) ∧ W.cell? ⟨g, off + 25, none⟩ = some (.string ⟨#[]⟩) ∧ W.cell? ⟨g, off + 26, none⟩ = some (.int .i64 21) ∧ W.cell? ⟨g, off + 27, none⟩ = some (.int .i64 22)) ∧
    (W.cell? ⟨g, off + 32, none⟩ = some (.int .i64 4) ∧ W.cell? ⟨g, off + 33, none⟩ = some (.string ⟨#[34]⟩) ∧ W.cell? ⟨g, off + 34, none⟩ = some (.int .i64 27) ∧ W.cell? ⟨g, off + 35, none⟩ = some (.int .i64 28)) :=
  ⟨tok_at 3 h (by decide), tok_at 5 h (by decide), tok_at 6 h (by decide), tok_at 8 h (by decide)⟩
set_option maxHeartbeats 8000000 in
set_option maxRecDepth 20000 in
theorem alive_any (P : Prg) (w : World) (hT : Tabs w) : Calls Tryd.prog 8 #[] w fun e w' => e = .returned (.bool true) ∧ Below w.heap.size w w' := by
  go_enter Tryd.func8, Tryd.ntmps8
  go_wp2_with fail
  refine (P.scan lit w (by decide) hT).mono ?_
  rintro e w1 ⟨v, rfl, hv, hb1⟩
  rw [lit_scan] at hv
  have cB := fun X h => P.brief w.heap.size litT v X h (by decide) (by decide)
  rw [lit_brief] at cB
  have HV := Lib.hid hv
  have hv2 := hv
  obtain ⟨a, cap, rfl, hcap, hc⟩ := hv
  obtain ⟨g, off, rfl, hBg, hgw, hat⟩ := hc.resolve_left (by simp [litT])
  clear hc
  have hlen : litT.length = 9 := rfl
  rw [hlen] at cB
  have HAT := Lib.hid hat
  have CB := Lib.hid cB
  rw [hlen]
  have c1 := CB.out w1 hv2
  clear hv2 cB hat hlen hcap HV
  go_wp2_with fail
  refine c1.mono ?_
  rintro e w2 ⟨rfl, hb2⟩
  have HB2 := Lib.hid hb2
  have hb12 := hb1.trans (hb2.mono hb1.size)
  have HB12 := Lib.hid hb12
  have hat2 : ToksAt w2 g off litT := fun j u hj => (hb2.cell (p := ⟨g, off + j, none⟩) hgw).trans (HAT.out j u hj)
  have HAT2 := Lib.hid hat2
  obtain ⟨⟨p0, p1, p2, p3⟩, _, ⟨q0, q1, q2, q3⟩, ⟨r0, r1, r2, r3⟩⟩ := lit_cells hat2
  have k1 := P.key ⟨#[101, 108, 115, 101]⟩ w2 (by decide)
  rw [show keyB (⟨#[101, 108, 115, 101]⟩ : ByteArray).toList = true by rw [ByteArray.toList_eq]; rfl] at k1
  clear c1 hb1 hb2 hb12 hat2
  go_wp2_with fail
  refine k1.mono ?_
  rintro e w3 ⟨rfl, hb3⟩
  have k2 := P.key ⟨#[110, 101, 119]⟩ w3 (by decide)
  rw [show keyB (⟨#[110, 101, 119]⟩ : ByteArray).toList = false by rw [ByteArray.toList_eq]; rfl] at k2
  have HB3 := Lib.hid hb3
  clear k1 hb3
  go_wp2_with fail
  refine k2.mono ?_
  rintro e w4 ⟨rfl, hb4⟩
  have hb24 := HB3.out.trans (hb4.mono HB3.out.size)
  have hgw2 : g < w2.heap.size := by have := HB2.out.size; omega
  have hat4 : ToksAt w4 g off litT := fun j u hj => (hb24.cell (p := ⟨g, off + j, none⟩) hgw2).trans (HAT2.out j u hj)
  clear p0 p1 p2 p3 q0 q1 q2 q3 r0 r1 r2 r3 k2 hb4
  obtain ⟨_, ⟨p0, p1, p2, p3⟩, _, _⟩ := lit_cells hat4
  have k3 := P.ends 3 15 21 ⟨#[114, 101, 116, 117, 114, 110]⟩ w4 (by decide)
  rw [show endsP 3 (⟨#[114, 101, 116, 117, 114, 110]⟩ : ByteArray).toList = true by rw [ByteArray.toList_eq]; rfl] at k3
  have HB24 := Lib.hid (HB12.out.trans (hb24.mono HB12.out.size))
  clear hat4 hb24
  go_wp2_with fail
  refine k3.mono ?_
  rintro e w5 ⟨rfl, hb5⟩
  have HB5 := Lib.hid (HB24.out.trans (hb5.mono HB24.out.size))
  clear hb5 k3 p0 p1 p2 p3
  go_wp2_with fail
  go_ret
  exact ⟨rfl, HB5.out⟩
end Go.Proofs.YtnpmlnjkjijdpaaDoor.S

/- The contracts of Read, Same, Write and Right at one value, in handy form. How many parts an argument has, and bytes: the plain function, and the contract of the law's Size. -/
import Derived.Test.YtfjdeacpdcnjpaaGreatDoorVBits
namespace Go.Proofs.YtfjdeacpdcnjpaaGreatDoor.V
open Go.RowKit
open Go.Lib

/-- A value's cells, its parts at a1, its keys at a2. -/
def cellsV (so : Int) (on : Bool) (n : Int) (t : List UInt8) (m1 m2 : Nat) (a1 a2 : Option Addr) (c1 c2 : Nat) : Array Value := #[.int .i64 so, .bool on, .int .i64 n, .string ⟨t.toArray⟩, .slice a1 m1 c1, .slice a2 m2 c2]

section
variable {so n : Int} {on : Bool} {t : List UInt8} {l : List Val} {ks : List (List UInt8)}
theorem read_v {S : ByteArray} (hr : readB S = .ok (.mk so on n t l ks)) (hS : S.size ≤ 274877906944) (W : World) (hE : EnvW W) :
    Calls Tryz.prog 16 #[.string S] W fun e w' => Below W.heap.size W w' ∧ ∃ a1 c1 a2 c2, e = .returned (.tuple #[.agg #[.int .i64 so, .bool on, .int .i64 n, .string ⟨t.toArray⟩, .slice a1 l.length c1, .slice a2 ks.length c2], .int .i64 0]) ∧ ValIn w' (fun g => W.heap.size ≤ g) (.mk so on n t l ks) (.slice a1 l.length c1) (.slice a2 ks.length c2) := by
  have h := read_any S W hS hE
  rw [hr] at h
  refine h.mono ?_
  rintro e w' ⟨hb, lv, kv, rfl, hv⟩
  have hv2 := hv
  obtain ⟨⟨a1, c1, rfl, _⟩, ⟨a2, c2, rfl, _⟩⟩ := hv2
  exact ⟨hb, a1, c1, a2, c2, rfl, hv⟩
theorem same_v2 (hw : wt (.mk so on n t l ks) ≤ 65536) (W : World) (R R' : Nat → Prop) (a1 a2 b1 b2 : Option Addr) (c1 c2 d1 d2 : Nat) (h : ValIn W R (.mk so on n t l ks) (.slice a1 l.length c1) (.slice a2 ks.length c2)) (h' : ValIn W R' (.mk so on n t l ks) (.slice b1 l.length d1) (.slice b2 ks.length d2)) :
    Calls Tryz.prog 15 #[.agg #[.int .i64 so, .bool on, .int .i64 n, .string ⟨t.toArray⟩, .slice a1 l.length c1, .slice a2 ks.length c2], .agg #[.int .i64 so, .bool on, .int .i64 n, .string ⟨t.toArray⟩, .slice b1 l.length d1, .slice b2 ks.length d2]] W fun e w' => e = .returned (.bool true) ∧ Below W.heap.size W w' := by
  have hs := same_top so so on on n n t t l l ks ks _ _ _ _ R R' W h h' (by omega) (by omega)
  have e : sameTop (.mk so on n t l ks) (.mk so on n t l ks) = true := by
    unfold sameTop
    rw [nestP_wt _ _ hw, sameP_self]; rfl
  rw [e] at hs
  exact hs
theorem write_v2 (hr : rightTop (.mk so on n t l ks) = true) (hw : wt (.mk so on n t l ks) ≤ 1099511627776) (W : World) (R : Nat → Prop) (a1 a2 : Option Addr) (c1 c2 : Nat) (h : ValIn W R (.mk so on n t l ks) (.slice a1 l.length c1) (.slice a2 ks.length c2)) (hE : EnvW W) :
    Calls Tryz.prog 6 #[.agg #[.int .i64 so, .bool on, .int .i64 n, .string ⟨t.toArray⟩, .slice a1 l.length c1, .slice a2 ks.length c2]] W fun e w' => e = .returned (.tuple #[.string ⟨(write (.mk so on n t l ks)).toArray⟩, .int .i64 0]) ∧ Below W.heap.size W w' := by
  have hrp : rightP (.mk so on n t l ks) = true := by simp only [rightTop, Bool.and_eq_true] at hr; exact hr.2
  have hl := write_le _ hrp
  refine (write_top so on n t l ks _ _ R W h hw (by omega) hE).mono ?_
  rintro e w' ⟨h1, h2⟩
  rw [hr, if_pos rfl] at h2
  exact ⟨h2, h1⟩
theorem right_v2 (W : World) (R : Nat → Prop) (hw : wt (.mk so on n t l ks) ≤ 1099511627776) (a1 a2 : Option Addr) (c1 c2 : Nat) (h : ValIn W R (.mk so on n t l ks) (.slice a1 l.length c1) (.slice a2 ks.length c2)) (hE : EnvW W) :
    Calls Tryz.prog 13 #[.agg #[.int .i64 so, .bool on, .int .i64 n, .string ⟨t.toArray⟩, .slice a1 l.length c1, .slice a2 ks.length c2]] W fun e w' => e = .returned (.bool (rightTop (.mk so on n t l ks))) ∧ Below W.heap.size W w' :=
  right_top so on n t l ks _ _ R W h hw hE
end

theorem val_below {W W' : World} {R : Nat → Prop} {v : Val} {lv kv : Value} (h : ValIn W R v lv kv) (hb : Below W.heap.size W W') : ValIn W' R v lv kv := h.later (fun b _ hlt => hb.block b hlt) (fun _ h => h) _ _ _
end Go.Proofs.YtfjdeacpdcnjpaaGreatDoor.V

namespace Go.Proofs.YtfjdeacpdcnjpaaGreatDoor.V
open Go.RowKit
open Go.Lib

mutual
def sizeV : Val → Nat
  | .mk _ _ _ t l ks => sizeLs l (1 + t.length + sumK ks)
def sizeLs : List Val → Nat → Nat
  | [], n => n
  | v :: r, n => if n ≤ 400 then sizeLs r (n + sizeV v) else n
end
mutual
theorem sizeV_le : ∀ v, sizeV v ≤ wt v
  | .mk so on n t l ks => by
    have h := sizeLs_le l (1 + t.length + sumK ks)
    simp only [sizeV, wt]
    have e : (ks.map fun k => k.length + 1).sum = sumK ks := rfl
    rw [e]
    omega
theorem sizeLs_le : ∀ (l : List Val) (n : Nat), sizeLs l n ≤ n + wtL l
  | [], n => by simp [sizeLs, wtL]
  | v :: r, n => by
    have h1 := sizeV_le v
    have h2 := sizeLs_le r (n + sizeV v)
    simp only [sizeLs, wtL]
    split <;> omega
end
theorem sumK_take_succ {ks : List (List UInt8)} {i : Nat} (h : i < ks.length) : sumK (ks.take (i + 1)) = sumK (ks.take i) + 1 + ks[i].length := by
  rw [List.take_succ_eq_append_getElem h, sumK_snoc]; omega
theorem sumK_take_le (ks : List (List UInt8)) (i : Nat) : sumK (ks.take i) ≤ sumK ks := by
  have hap : ∀ a b : List (List UInt8), sumK (a ++ b) = sumK a + sumK b := by
    intro a b
    simp [sumK]
  have h2 := hap (ks.take i) (ks.drop i)
  rw [List.take_append_drop] at h2
  omega
theorem wtL_take_succ {l : List Val} {i : Nat} (h : i < l.length) : wtL (l.take (i + 1)) = wtL (l.take i) + wt l[i] := by
  rw [List.take_succ_eq_append_getElem h, wtL_snoc]
theorem wtL_take_le (l : List Val) (i : Nat) : wtL (l.take i) ≤ wtL l := by
  have hap : ∀ a b : List Val, wtL (a ++ b) = wtL a + wtL b := by
    intro a b
    induction a with
    | nil => simp [wtL]
    | cons x r ih => simp only [List.cons_append, wtL, ih]; omega
  have h2 := hap (l.take i) (l.drop i)
  rw [List.take_append_drop] at h2
  omega
theorem sizeLs_drop {l : List Val} {k n : Nat} (hk : k < l.length) : sizeLs (l.drop k) n = if n ≤ 400 then sizeLs (l.drop (k + 1)) (n + sizeV l[k]) else n := by
  rw [List.drop_eq_getElem_cons hk]; simp only [sizeLs]

/-- The contract of Size at a value. -/
def SizeC (v : Val) : Prop := ∀ (lv kv : Value) (R : Nat → Prop) (w : World), ValIn w R v lv kv → wt v ≤ 1099511627776 →
  Calls Tryz.prog 4 #[arg v lv kv] w fun e w' => e = .returned (.int .i64 (sizeV v)) ∧ Below w.heap.size w w'

set_option maxHeartbeats 4000000 in
theorem size_v : ∀ v, SizeC v := Val.ind fun so on n t l ks IH lv kv R w hv hw => by
  have hv' := hv
  obtain ⟨⟨a1, c1, rfl, hl⟩, ⟨a2, c2, rfl, hk⟩⟩ := hv'
  have HL := Lib.hid hl
  have HK := Lib.hid hk
  have HIH := Lib.hid IH
  have hw2 := hw
  simp only [wt] at hw2
  have hw3 : 1 + t.length + sumK ks + wtL l ≤ 1099511627776 := hw2
  have HWM := Lib.hid (fun v (h : v ∈ l) => Nat.le_trans (wtL_mem h) (show wtL l ≤ 1099511627776 by omega))
  have hlb : l.length ≤ 1099511627776 := Nat.le_trans (wtL_length l) (by omega)
  have hkb : ks.length ≤ 1099511627776 := Nat.le_trans (wt_keys ks) (by have : (ks.map fun k => k.length + 1).sum = sumK ks := rfl; omega)
  obtain ⟨F, hF⟩ : ∃ F, sizeV (.mk so on n t l ks) = F := ⟨_, rfl⟩
  have HF := Lib.hid (show sizeLs (l.drop 0) (1 + t.length + sumK ks) = F by rw [← hF]; rfl)
  rw [hF]
  obtain ⟨ln, hln⟩ : ∃ k, l.length = k := ⟨_, rfl⟩
  obtain ⟨kn, hkn⟩ : ∃ k, ks.length = k := ⟨_, rfl⟩
  have HLN := Lib.hid hln
  have HKN := Lib.hid hkn
  have HW3 := Lib.hid hw3
  have hts : (⟨t.toArray⟩ : ByteArray).size = t.length := rfl
  have ht1 : t.length ≤ 1099511627776 := by omega
  simp only [arg, six', six, strCell]
  rw [hln, hkn]
  rw [hln] at hlb
  rw [hkn] at hkb
  clear hv hl hk IH hw hw2 hw3 hF hln hkn
  go_enter Tryz.func4, Tryz.ntmps4
  go_wp2_with fail
  obtain ⟨w1, hw1⟩ : ∃ w1, w.alloc (.cells #[.int .i64 so, .bool on, .int .i64 n, .string ⟨t.toArray⟩, .slice a1 ln c1, .slice a2 kn c2] 26) = w1 := ⟨_, rfl⟩
  rw [hw1]
  have hq1 : w1.heap[w.heap.size]? = some (.cells #[.int .i64 so, .bool on, .int .i64 n, .string ⟨t.toArray⟩, .slice a1 ln c1, .slice a2 kn c2] 26 (0, 0)) := by rw [← hw1]; exact heap_alloc_new w _
  have hb1 : Below w.heap.size w w1 := by rw [← hw1]; exact (Below.refl _ _).alloc (Nat.le_refl _) _
  have hz1 : w.heap.size < w1.heap.size := by rw [← hw1]; simp
  obtain ⟨⟨k0, k1, k2, k3, k4, k5⟩, kf⟩ := cells_six hq1
  have HQ1 := Lib.hid hq1
  have HB1 := Lib.hid hb1
  clear hq1 hb1 hw1
  go_loopw [3, 4] (fun nv iv wr => ∃ i m : Nat, iv = .int .i64 i ∧ nv = .int .i64 m ∧ i ≤ kn ∧ m ≤ 1099511627776 ∧ Hid (m = 1 + t.length + sumK (ks.take i)) ∧ wr = w1) (fun _ iv _ => kn - (Go.RowKit.intOf iv).toNat)
  case atStart => exact ⟨0, 1 + t.length, rfl, by go_num, by omega, by have := HW3.out; omega, Lib.hid (by simp [sumK]), rfl⟩
  case round =>
    obtain ⟨i, m, rfl, rfl, hi, hm, HM, hwr⟩ := hrel
    have hwr' := hwr.symm
    subst hwr'
    clear hwr
    by_cases hlt : i < kn
    · have hll : i < ks.length := by rw [HKN.out]; exact hlt
      obtain ⟨g, off, rfl, hg, hc⟩ := HK.out.resolve_left (fun h => by rw [h] at hll; exact Nat.not_lt_zero _ hll)
      have hci : w1.cell? ⟨g, off + i, none⟩ = some (.string ⟨(ks[i]).toArray⟩) := by
        have h1 := hc i (strCell ks[i]) (by simp [hll])
        exact (HB1.out.cell (p := ⟨g, off + i, none⟩) (Lib.lt_of_cell h1)).trans h1
      have hsz : (⟨(ks[i]).toArray⟩ : ByteArray).size = (ks[i]).length := rfl
      have hts2 := sumK_take_succ hll
      have hle := sumK_take_le ks (i + 1)
      have hMo := HM.out
      have HM2 := Lib.hid (show m + 1 + ks[i].length = 1 + t.length + sumK (ks.take (i + 1)) by omega)
      have hbb : m + 1 + ks[i].length ≤ 1099511627776 := by have := HW3.out; omega
      clear hc hMo hts2 hle
      generalize ks[i] = x at hci hsz HM2 hbb
      go_wp2_with fail
      go_roundw
      case rel => exact ⟨i + 1, m + 1 + x.length, by go_num, by go_num, by omega, hbb, HM2, by first | rfl | trivial⟩
      case measure => simp [Go.RowKit.intOf]; omega
    · have hMk : m = 1 + t.length + sumK ks := by
        have h1 := HM.out
        rw [List.take_of_length_le (by rw [HKN.out]; omega)] at h1
        exact h1
      have HMK := Lib.hid hMk
      have HF2 := Lib.hid (show sizeLs (l.drop 0) m = F by rw [hMk]; exact HF.out)
      clear hMk HM
      go_wp2_with fail
      clear k0 k1 k2 k3 k4 k5 kf
      go_loopw [3, 5] (fun nv iv w2 => ∃ i m2 : Nat, iv = .int .i64 i ∧ nv = .int .i64 m2 ∧ i ≤ ln ∧ Hid (m2 ≤ m + wtL (l.take i)) ∧ Hid (sizeLs (l.drop i) m2 = F) ∧ Hid (Below w1.heap.size w1 w2)) (fun _ iv _ => ln - (Go.RowKit.intOf iv).toNat)
      case atStart => exact ⟨0, m, rfl, rfl, by omega, Lib.hid (by omega), HF2, Lib.hid (Below.refl _ _)⟩
      case round =>
        obtain ⟨i, m2, rfl, rfl, hi2, HM2, HI, HB⟩ := hrel
        have hq := (HB.out.block w.heap.size hz1).trans HQ1.out
        obtain ⟨⟨k0, k1, k2, k3, k4, k5⟩, kf⟩ := cells_six hq
        have HQ := Lib.hid hq
        have hz2 := HB.out.size
        have hmb : m2 ≤ 1099511627776 := by have h1 := HM2.out; have h2 := wtL_take_le l i; have h3 := HW3.out; have h4 := HMK.out; omega
        clear hq
        by_cases hlt2 : i < ln
        · have hll : i < l.length := by rw [HLN.out]; exact hlt2
          have hI := HI.out
          rw [sizeLs_drop hll] at hI
          by_cases h400 : m2 ≤ 400
          · rw [if_pos h400] at hI
            obtain ⟨g, off, xs, rfl, hg, hc, hL⟩ := HL.out.resolve_left (fun h => by rw [h] at hll; exact Nat.not_lt_zero _ hll)
            have hb0 : Below w.heap.size w wr := HB1.out.trans (HB.out.mono HB1.out.size)
            have hsm : Same R w wr := fun b _ hb => hb0.block b hb
            obtain ⟨so', on', n', t', l', ks', a1', c1', a2', c2', he, hv', j0, j1, j2, j3, j4, j5⟩ := part_at i (ListIn.later hsm (fun _ h => h) l xs hL) (hc.later hg hsm) hll
            have hle := sizeV_le l[i]
            have hts := wtL_take_succ hll
            have htl := wtL_take_le l (i + 1)
            have HM3 := Lib.hid (show m2 + sizeV l[i] ≤ m + wtL (l.take (i + 1)) by have := HM2.out; omega)
            have hmb3 : m2 + sizeV l[i] ≤ 1099511627776 := by have h1 := HM2.out; have h3 := HW3.out; have h4 := HMK.out; omega
            have cP := fun W' (hb' : Below wr.heap.size wr W') => (HIH.out l[i] (List.getElem_mem hll)) (.slice a1' l'.length c1') (.slice a2' ks'.length c2') R W' (by rw [he]; exact ValIn.later (fun b _ hb => hb'.block b hb) (fun _ h => h) _ _ _ hv') (HWM.out _ (List.getElem_mem hll))
            rw [he] at hI HM3 hmb3
            simp only [he] at cP
            simp only [arg, six', six, strCell] at cP
            obtain ⟨sz, hsz⟩ : ∃ z, sizeV (.mk so' on' n' t' l' ks') = z := ⟨_, rfl⟩
            rw [hsz] at hI HM3 hmb3
            simp only [hsz] at cP
            have HI2 := Lib.hid hI
            have HB0 := Lib.hid hb0
            clear hI he hv' hsm hL hc hle hts htl hsz hb0
            go_wp2_with fail
            refine (cP _ (Below.refl _ _)).mono ?_
            rintro e w3 ⟨rfl, hb3⟩
            have HB3 := Lib.hid (HB.out.trans (hb3.mono hz2))
            clear cP hb3
            go_wp2_with fail
            go_roundw
            case rel => exact ⟨i + 1, m2 + sz, by go_num, by go_num, by omega, HM3, HI2, HB3⟩
            case measure => simp [Go.RowKit.intOf]; omega
          · rw [if_neg h400] at hI
            subst hI
            go_wp2_with fail
            go_ret
            exact ⟨rfl, HB1.out.trans (HB.out.mono HB1.out.size)⟩
        · have hI := HI.out
          rw [List.drop_eq_nil_of_le (by rw [HLN.out]; omega)] at hI
          have hI2 : m2 = F := hI
          subst hI2
          clear hI
          go_wp2_with fail
          go_ret
          exact ⟨rfl, HB1.out.trans (HB.out.mono HB1.out.size)⟩
end Go.Proofs.YtfjdeacpdcnjpaaGreatDoor.V

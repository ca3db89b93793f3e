/- The contract of writeRecord. -/
import Derived.Test.YtfjdeacpdcnjpaaGreatDoorVWrite
namespace Go.Proofs.YtfjdeacpdcnjpaaGreatDoor.V
open Go.RowKit
open Go.Lib

def restR (i : Nat) (ks : List (List UInt8)) (l : List Val) : List UInt8 := if i = 0 then writeR ks l else writeR1 (ks.drop i) (l.drop i)
theorem restR_at {i : Nat} {ks : List (List UInt8)} {l : List Val} (h : i < l.length) (h2 : i < ks.length) : restR i ks l = sepL i ++ (quoteT ks[i] ++ (58 :: (write l[i] ++ restR (i + 1) ks l))) := by
  by_cases h0 : i = 0
  · subst h0
    cases l with
    | nil => exact absurd h (Nat.not_lt_zero _)
    | cons v r =>
      cases ks with
      | nil => exact absurd h2 (Nat.not_lt_zero _)
      | cons k kr => simp [restR, sepL, writeR]
  · simp only [restR, sepL, if_neg h0, if_neg (Nat.succ_ne_zero i), List.drop_eq_getElem_cons h, List.drop_eq_getElem_cons h2, writeR1, List.headD_cons, List.tail_cons]
    rfl
theorem restR_end {ks : List (List UInt8)} {l : List Val} : restR l.length ks l = [] := by
  cases l with
  | nil => simp [restR, writeR]
  | cons v r => simp [restR, writeR1]

theorem text_l (B b : Nat) (acc t : List UInt8) (w : World) (h : Bld B b acc w) (hlen : acc.length + (quoteT t).length ≤ 140737488355328) (hBw : B ≤ w.heap.size) (ht : t.length ≤ 1099511627776) :
    Calls Tryz.prog 34 #[.pointer (some ⟨b, 0, none⟩), .string ⟨t.toArray⟩] w fun e w' => e = .returned (.tuple #[]) ∧ Bld B b (acc ++ quoteT t) w' ∧ Far B b w w' :=
  text_s B b acc ⟨t.toArray⟩ w h hlen hBw (by rw [size_mk]; exact ht)

set_option maxHeartbeats 4000000 in
theorem record_write (l : List Val) (ks : List (List UInt8)) (kv : Value) (IH : ∀ v ∈ l, WriteC v) (a1 : Option Addr) (c1 : Nat) (R : Nat → Prop) (B b : Nat) (acc : List UInt8) (w : World)
    (hl : l = [] ∨ ∃ g off xs, a1 = some ⟨g, off, none⟩ ∧ R g ∧ CellsAt w g off xs ∧ ListIn w R l xs) (hk : KeysIn w R ks kv) (hR : ∀ g, R g → g < B) (hE : Env B w) (hB : Bld B b acc w) (hlen : acc.length + (123 :: (writeR ks l ++ [125])).length ≤ 140737488355328)
    (hwl : wtL l ≤ 1099511627776) (hwk : (ks.map fun k => k.length + 1).sum ≤ 1099511627776) (hri : rightPs l = true) (hkl : ks.length = l.length) :
    Calls Tryz.prog 36 #[.pointer (some ⟨b, 0, none⟩), kv, .slice a1 l.length c1] w fun e w' => e = .returned (.tuple #[]) ∧ Bld B b (acc ++ 123 :: (writeR ks l ++ [125])) w' ∧ Far B b w w' := by
  have HL := Lib.hid hl
  have HK := Lib.hid hk
  have HIH := Lib.hid IH
  have HE := Lib.hid hE
  have hBw := hE.size
  have HWM := Lib.hid (fun v (h : v ∈ l) => Nat.le_trans (wtL_mem h) hwl)
  have HWK := Lib.hid (fun k (hk : k ∈ ks) => Nat.le_trans (sum_mem hk) hwk)
  have HRM := Lib.hid (fun v (h : v ∈ l) => rightPs_mem hri h)
  have hlb : l.length ≤ 1099511627776 := Nat.le_trans (wtL_length l) hwl
  obtain ⟨T, hT⟩ : ∃ T, acc ++ 123 :: (writeR ks l ++ [125]) = T := ⟨_, rfl⟩
  rw [hT]
  have hTl : T.length ≤ 140737488355328 := by rw [← hT, List.length_append]; exact hlen
  have HT := Lib.hid (show (acc ++ [123]) ++ (restR 0 ks l ++ [125]) = T by rw [← hT]; simp [restR])
  have cO := bld_byte B b acc 123 w hB (by simp at hlen; omega) hBw
  obtain ⟨ka, kc, rfl, _⟩ := hk
  obtain ⟨ln, hln⟩ : ∃ k, l.length = k := ⟨_, rfl⟩
  have HLN := Lib.hid hln
  have HKL := Lib.hid (hkl.trans hln)
  rw [hkl]
  rw [hln] at hlb ⊢
  clear hl IH hE hwl hri hln hB hlen hT hkl
  go_enter Tryz.func36, Tryz.ntmps36
  go_wp2_with fail
  refine cO.mono ?_
  rintro e w1 ⟨rfl, hB1, hb1⟩
  have HB1 := Lib.hid hB1
  have HW1 := Lib.hid hb1
  clear cO hB1 hb1
  go_wp2_with fail
  go_loopw [12] (fun iv wr => ∃ (i : Nat) (pre : List UInt8), iv = .int .i64 i ∧ i ≤ ln ∧ Hid (pre ++ (restR i ks l ++ [125]) = T) ∧ Hid (Bld B b pre wr) ∧ Hid (Far B b w wr)) (fun iv _ => ln - (Go.RowKit.intOf iv).toNat)
  case atStart => exact ⟨0, _, rfl, by omega, HT, HB1, HW1⟩
  case round =>
    obtain ⟨i, pre, rfl, hi, HI, HB, HW⟩ := hrel
    have hz := HW.out.size
    by_cases hlt : i < ln
    · have hll : i < l.length := by rw [HLN.out]; exact hlt
      have hlk : i < ks.length := by rw [HKL.out]; exact hlt
      obtain ⟨g, off, xs, rfl, hg, hc, hL⟩ := HL.out.resolve_left (fun h => by rw [h] at hll; exact Nat.not_lt_zero _ hll)
      have hsm : ∀ {W}, Far B b w W → Same R w W := fun hf g hg _ => hf.below.block g (hR g hg)
      obtain ⟨so', on', n', t', l', ks', a1', c1', a2', c2', he, hv', k0, k1, k2, k3, k4, k5⟩ := part_at i (ListIn.later (hsm HW.out) (fun _ h => h) l xs hL) (hc.later hg (hsm HW.out)) hll
      obtain ⟨kg, ko, kcap, hke, kk⟩ := key_at (HK.out.later (hsm HW.out) (fun _ h => h)) i hlk
      obtain ⟨rfl, rfl⟩ : ka = some ⟨kg, ko, none⟩ ∧ kcap = kc := by cases hke; exact ⟨rfl, rfl⟩
      have hI := HI.out
      rw [restR_at hll hlk, he] at hI
      have hsz := HWK.out _ (List.getElem_mem hlk)
      generalize ks[i] = key at hI kk hsz
      have cP := fun W' pre' (hb' : Far B b wr W') (hB' : Bld B b pre' W') (hl' : pre'.length + (write l[i]).length ≤ 140737488355328) => (HIH.out l[i] (List.getElem_mem hll)) (.slice a1' l'.length c1') (.slice a2' ks'.length c2') R B b pre' W'
        (by rw [he]; exact ValIn.later (fun g hg _ => hb'.below.block g (hR g hg)) (fun _ h => h) _ _ _ hv') hR (HE.out.later (HW.out.trans hb').below) hB' hl' (HWM.out _ (List.getElem_mem hll)) (HRM.out _ (List.getElem_mem hll))
      rw [he] at cP
      obtain ⟨wp, hwp⟩ : ∃ x, write (.mk so' on' n' t' l' ks') = x := ⟨_, rfl⟩
      simp only [hwp, arg, six', six, strCell] at cP
      rw [hwp] at hI
      have hTl2 := hTl
      rw [← hI] at hTl2
      simp only [List.length_append, List.length_cons] at hTl2
      have hgB := hR g hg
      have hcell : ∀ {W : World} {o : Nat} {v : Value}, Far B b wr W → wr.cell? ⟨g, o, none⟩ = some v → W.cell? ⟨g, o, none⟩ = some v := fun hf hv => (hf.below.cell hgB).trans hv
      by_cases h0 : i = 0
      · have q : decide (0 < i) = false := decide_eq_false (by omega)
        have HI2 := Lib.hid (show (pre ++ quoteT key ++ [58] ++ wp) ++ (restR (i + 1) ks l ++ [125]) = T by rw [← hI]; simp [sepL, h0])
        have hF0 := Far.refl B b wr
        clear he hv' hwp hsm hL hc hI h0 hke
        go_wp2_with fail
        refine (text_l B b pre key wr HB.out (by omega) (by have := hF0.size; omega) hsz).mono ?_
        rintro e w3 ⟨rfl, hB3, hb3⟩
        have hF3 := hF0.trans hb3
        clear hb3
        go_wp2_with fail
        refine (bld_byte B b _ 58 w3 hB3 (by simp; omega) (by have := hF3.size; omega)).mono ?_
        rintro e w4 ⟨rfl, hB4, hb4⟩
        have hF4 := hF3.trans hb4
        have j0 := hcell hF4 k0
        have j1 := hcell hF4 k1
        have j2 := hcell hF4 k2
        have j3 := hcell hF4 k3
        have j4 := hcell hF4 k4
        have j5 := hcell hF4 k5
        have cQ := cP w4 _ hF4 hB4 (by simp; omega)
        clear hb4 hB3 hF3 cP hcell
        go_wp2_with fail
        refine cQ.mono ?_
        rintro e w5 ⟨rfl, hB5, hb5⟩
        have HB5 := Lib.hid hB5
        have HW5 := Lib.hid (HW.out.trans (hF4.trans hb5))
        clear cQ hb5 hB5 hF4 hB4
        go_wp2_with fail
        go_roundw
        case rel => exact ⟨i + 1, _, by go_num, by omega, HI2, HB5, HW5⟩
        case measure => simp [Go.RowKit.intOf]; omega
      · have q : decide (0 < i) = true := decide_eq_true (by omega)
        have HI2 := Lib.hid (show (pre ++ [44] ++ quoteT key ++ [58] ++ wp) ++ (restR (i + 1) ks l ++ [125]) = T by rw [← hI]; simp [sepL, h0])
        have hsp : (sepL i).length = 1 := by simp [sepL, h0]
        have cO := bld_byte B b pre 44 _ HB.out (by omega) (by omega)
        clear he hv' hwp hsm hL hc hI h0 hke
        go_wp2_with fail
        refine cO.mono ?_
        rintro e w2 ⟨rfl, hB2, hb2⟩
        clear cO
        go_wp2_with fail
        refine (text_l B b (pre ++ [44]) key w2 hB2 (by simp; omega) (by have := hb2.size; omega) hsz).mono ?_
        rintro e w3 ⟨rfl, hB3, hb3⟩
        have hF3 := hb2.trans hb3
        clear hb3
        go_wp2_with fail
        refine (bld_byte B b _ 58 w3 hB3 (by simp; omega) (by have := hF3.size; omega)).mono ?_
        rintro e w4 ⟨rfl, hB4, hb4⟩
        have hF4 := hF3.trans hb4
        have j0 := hcell hF4 k0
        have j1 := hcell hF4 k1
        have j2 := hcell hF4 k2
        have j3 := hcell hF4 k3
        have j4 := hcell hF4 k4
        have j5 := hcell hF4 k5
        have cQ := cP w4 _ hF4 hB4 (by simp; omega)
        clear hb4 hB3 hF3 cP hcell
        go_wp2_with fail
        refine cQ.mono ?_
        rintro e w5 ⟨rfl, hB5, hb5⟩
        have HB5 := Lib.hid hB5
        have HW5 := Lib.hid (HW.out.trans (hF4.trans hb5))
        clear cQ hb5 hB5 hF4 hB4
        go_wp2_with fail
        go_roundw
        case rel => exact ⟨i + 1, _, by go_num, by omega, HI2, HB5, HW5⟩
        case measure => simp [Go.RowKit.intOf]; omega
    · obtain rfl : i = ln := by omega
      have hI := HI.out
      rw [← HLN.out, restR_end] at hI
      have c9 := bld_byte B b pre 125 wr HB.out (by rw [← hI] at hTl; simpa using hTl) (by omega)
      have HF := Lib.hid hI
      clear hI
      go_wp2_with fail
      refine c9.mono ?_
      rintro e w2 ⟨rfl, hB2, hb2⟩
      have HB2 := Lib.hid hB2
      have HW2 := Lib.hid (HW.out.trans hb2)
      clear c9 hB2 hb2
      go_wp2_with fail
      refine bodyPost_end (results_none rfl _ _ _) rfl ?_
      exact ⟨rfl, by rw [← HF.out]; exact HB2.out, HW2.out⟩
end Go.Proofs.YtfjdeacpdcnjpaaGreatDoor.V

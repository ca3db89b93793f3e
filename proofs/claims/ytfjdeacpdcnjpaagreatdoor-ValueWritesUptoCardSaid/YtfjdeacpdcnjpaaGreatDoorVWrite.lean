/- The contracts of write, and of Write. -/
import Derived.Test.YtfjdeacpdcnjpaaGreatDoorVWriteT
import Derived.Test.YtfjdeacpdcnjpaaGreatDoorVRightP
namespace Go.Proofs.YtfjdeacpdcnjpaaGreatDoor.V
open Go.RowKit
open Go.Lib

/-- The contract of write at a right value. -/
def WriteC (v : Val) : Prop := ∀ (lv kv : Value) (R : Nat → Prop) (B b : Nat) (acc : List UInt8) (w : World), ValIn w R v lv kv → (∀ g, R g → g < B) → Env B w → Bld B b acc w → acc.length + (write v).length ≤ 140737488355328 → wt v ≤ 1099511627776 → rightP v = true →
  Calls Tryz.prog 17 #[.pointer (some ⟨b, 0, none⟩), arg v lv kv] w fun e w' => e = .returned (.tuple #[]) ∧ Bld B b (acc ++ write v) w' ∧ Far B b w w'

def restL (i : Nat) (l : List Val) : List UInt8 := if i = 0 then writeL l else writeL1 (l.drop i)
def sepL (i : Nat) : List UInt8 := if i = 0 then [] else [44]
theorem restL_at {i : Nat} {l : List Val} (h : i < l.length) : restL i l = sepL i ++ (write l[i] ++ restL (i + 1) l) := by
  by_cases h0 : i = 0
  · subst h0
    cases l with
    | nil => exact absurd h (Nat.not_lt_zero _)
    | cons v r => simp [restL, sepL, writeL]
  · simp only [restL, sepL, if_neg h0, if_neg (Nat.succ_ne_zero i), List.drop_eq_getElem_cons h, writeL1]
    rfl
theorem restL_end {l : List Val} : restL l.length l = [] := by
  cases l with
  | nil => rfl
  | cons v r => simp [restL, writeL1]
theorem rightPs_mem {v : Val} : ∀ {l : List Val}, rightPs l = true → v ∈ l → rightP v = true
  | [], _, h => absurd h (List.not_mem_nil)
  | x :: r, h, hm => by
    simp only [rightPs, Bool.and_eq_true] at h
    rcases List.mem_cons.1 hm with h1 | h1
    · rw [h1]; exact h.1
    · exact rightPs_mem h.2 h1

set_option maxHeartbeats 4000000 in
theorem list_write (l : List Val) (IH : ∀ v ∈ l, WriteC v) (a1 : Option Addr) (c1 : Nat) (R : Nat → Prop) (B b : Nat) (acc : List UInt8) (w : World)
    (hl : l = [] ∨ ∃ g off xs, a1 = some ⟨g, off, none⟩ ∧ R g ∧ CellsAt w g off xs ∧ ListIn w R l xs) (hR : ∀ g, R g → g < B) (hE : Env B w) (hB : Bld B b acc w) (hlen : acc.length + (91 :: (writeL l ++ [93])).length ≤ 140737488355328)
    (hwl : wtL l ≤ 1099511627776) (hri : rightPs l = true) :
    Calls Tryz.prog 35 #[.pointer (some ⟨b, 0, none⟩), .slice a1 l.length c1] w fun e w' => e = .returned (.tuple #[]) ∧ Bld B b (acc ++ 91 :: (writeL l ++ [93])) w' ∧ Far B b w w' := by
  have HL := Lib.hid hl
  have HIH := Lib.hid IH
  have HE := Lib.hid hE
  have hBw := hE.size
  have HWM := Lib.hid (fun v (h : v ∈ l) => Nat.le_trans (wtL_mem h) hwl)
  have HRM := Lib.hid (fun v (h : v ∈ l) => rightPs_mem hri h)
  have hlb : l.length ≤ 1099511627776 := Nat.le_trans (wtL_length l) hwl
  obtain ⟨T, hT⟩ : ∃ T, acc ++ 91 :: (writeL l ++ [93]) = T := ⟨_, rfl⟩
  rw [hT]
  have hTl : T.length ≤ 140737488355328 := by rw [← hT, List.length_append]; exact hlen
  have HT := Lib.hid (show (acc ++ [91]) ++ (restL 0 l ++ [93]) = T by rw [← hT]; simp [restL])
  have cO := bld_byte B b acc 91 w hB (by simp at hlen; omega) hBw
  obtain ⟨ln, hln⟩ : ∃ k, l.length = k := ⟨_, rfl⟩
  have HLN := Lib.hid hln
  rw [hln] at hlb ⊢
  clear hl IH hE hwl hri hln hB hlen hT
  go_enter Tryz.func35, Tryz.ntmps35
  go_wp2_with fail
  refine cO.mono ?_
  rintro e w1 ⟨rfl, hB1, hb1⟩
  have HB1 := Lib.hid hB1
  have HW1 := Lib.hid hb1
  clear cO hB1 hb1
  go_wp2_with fail
  go_loopw [10] (fun iv wr => ∃ (i : Nat) (pre : List UInt8), iv = .int .i64 i ∧ i ≤ ln ∧ Hid (pre ++ (restL i l ++ [93]) = T) ∧ Hid (Bld B b pre wr) ∧ Hid (Far B b w wr)) (fun iv _ => ln - (Go.RowKit.intOf iv).toNat)
  case atStart => exact ⟨0, _, rfl, by omega, HT, HB1, HW1⟩
  case round =>
    obtain ⟨i, pre, rfl, hi, HI, HB, HW⟩ := hrel
    have hz := HW.out.size
    by_cases hlt : i < ln
    · have hll : i < l.length := by rw [HLN.out]; exact hlt
      obtain ⟨g, off, xs, rfl, hg, hc, hL⟩ := HL.out.resolve_left (fun h => by rw [h] at hll; exact Nat.not_lt_zero _ hll)
      have hsm : ∀ {W}, Far B b w W → Same R w W := fun hf g hg _ => hf.below.block g (hR g hg)
      obtain ⟨so', on', n', t', l', ks', a1', c1', a2', c2', he, hv', k0, k1, k2, k3, k4, k5⟩ := part_at i (ListIn.later (hsm HW.out) (fun _ h => h) l xs hL) (hc.later hg (hsm HW.out)) hll
      have hI := HI.out
      rw [restL_at hll, he] at hI
      have cP := fun W' pre' (hb' : Far B b wr W') (hB' : Bld B b pre' W') (hl' : pre'.length + (write l[i]).length ≤ 140737488355328) => (HIH.out l[i] (List.getElem_mem hll)) (.slice a1' l'.length c1') (.slice a2' ks'.length c2') R B b pre' W'
        (by rw [he]; exact ValIn.later (fun g hg _ => hb'.below.block g (hR g hg)) (fun _ h => h) _ _ _ hv') hR (HE.out.later (HW.out.trans hb').below) hB' hl' (HWM.out _ (List.getElem_mem hll)) (HRM.out _ (List.getElem_mem hll))
      rw [he] at cP
      obtain ⟨wp, hwp⟩ : ∃ x, write (.mk so' on' n' t' l' ks') = x := ⟨_, rfl⟩
      simp only [hwp, arg, six', six, strCell] at cP
      rw [hwp] at hI
      have hTl2 := hTl
      rw [← hI] at hTl2
      simp only [List.length_append] at hTl2
      have hBA := bld_later HB.out ((Below.refl _ _).alloc (Nat.le_refl _) (Obj.cells #[Value.int IntKind.i64 so', Value.bool on', Value.int IntKind.i64 n', Value.string { data := t'.toArray }, Value.slice a1' l'.length c1', Value.slice a2' ks'.length c2'] 34))
      have hFA := (Far.refl B b wr).alloc (by omega) (Obj.cells #[Value.int IntKind.i64 so', Value.bool on', Value.int IntKind.i64 n', Value.string { data := t'.toArray }, Value.slice a1' l'.length c1', Value.slice a2' ks'.length c2'] 34)
      by_cases h0 : i = 0
      · have q : decide (0 < i) = false := decide_eq_false (by omega)
        have HI2 := Lib.hid (show (pre ++ wp) ++ (restL (i + 1) l ++ [93]) = T by rw [← hI]; simp [sepL, h0])
        have hlp : pre.length + wp.length ≤ 140737488355328 := by omega
        clear he hv' hwp hsm hL hc hI hTl2 h0
        go_wp2_with fail
        refine (cP _ _ hFA hBA hlp).mono ?_
        rintro e w3 ⟨rfl, hB3, hb3⟩
        have HB3 := Lib.hid hB3
        have HW3 := Lib.hid (HW.out.trans (hFA.trans hb3))
        clear cP hb3 hB3 hFA hBA
        go_wp2_with fail
        go_roundw
        case rel => exact ⟨i + 1, _, by go_num, by omega, HI2, HB3, HW3⟩
        case measure => simp [Go.RowKit.intOf]; omega
      · have q : decide (0 < i) = true := decide_eq_true (by omega)
        have HI2 := Lib.hid (show (pre ++ [44] ++ wp) ++ (restL (i + 1) l ++ [93]) = T by rw [← hI]; simp [sepL, h0])
        have hsp : (sepL i).length = 1 := by simp [sepL, h0]
        have hlp : (pre ++ [44]).length + wp.length ≤ 140737488355328 := by simp; omega
        have cO := bld_byte B b pre 44 _ hBA (by omega) (by have := hFA.size; omega)
        have hblt := bld_lt HB.out
        clear he hv' hwp hsm hL hc hI hTl2 h0
        go_wp2_with fail
        refine cO.mono ?_
        rintro e w2 ⟨rfl, hB2, hb2⟩
        have hblk := hb2.others wr.heap.size _ (heap_alloc_new wr _) (by simp; omega) (by intro c fz h; cases h)
        obtain ⟨⟨j0, j1, j2, j3, j4, j5⟩, jf⟩ := cells_six hblk
        have hF2 := hFA.trans hb2
        clear cO hb2 hblk
        go_wp2_with fail
        refine (cP _ _ hF2 hB2 hlp).mono ?_
        rintro e w3 ⟨rfl, hB3, hb3⟩
        have HB3 := Lib.hid hB3
        have HW3 := Lib.hid (HW.out.trans (hF2.trans hb3))
        clear cP hb3 hB3 hF2 hB2 hFA hBA
        go_wp2_with fail
        go_roundw
        case rel => exact ⟨i + 1, _, by go_num, by omega, HI2, HB3, HW3⟩
        case measure => simp [Go.RowKit.intOf]; omega
    · obtain rfl : i = ln := by omega
      have hI := HI.out
      rw [← HLN.out, restL_end] at hI
      have c9 := bld_byte B b pre 93 wr HB.out (by rw [← hI] at hTl; simpa using hTl) (by omega)
      have HF := Lib.hid hI
      clear hI
      go_wp2_with fail
      refine c9.mono ?_
      rintro e w2 ⟨rfl, hB2, hb2⟩
      have HB2 := Lib.hid hB2
      have HW2 := Lib.hid (HW.out.trans hb2)
      clear c9 hB2 hb2
      go_wp2_with fail
      refine bodyPost_end (results_none rfl _ _ _) rfl ?_
      exact ⟨rfl, by rw [← HF.out]; exact HB2.out, HW2.out⟩
end Go.Proofs.YtfjdeacpdcnjpaaGreatDoor.V

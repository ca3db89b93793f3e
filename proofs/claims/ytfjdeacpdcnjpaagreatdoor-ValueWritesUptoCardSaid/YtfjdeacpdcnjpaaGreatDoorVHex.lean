/- The contract of strconv.ParseUint at four bytes, base 16, 16 bits: the number of four hexadecimal figures, or an error that is not nil. -/
import Derived.Test.YtfjdeacpdcnjpaaGreatDoorVPlain
import Derived.Test.YtfjdeacpdcnjpaaGreatDoorShelf
import Derived.Lib.Strings
import Derived.Lib.Walk
import Derived.Lib.ConvBytes
import Derived.Lib.AtoiAllMem
import Derived.Lib.Hide
import Derived.Laws.Strings3
import Derived.Laws.Closers25
import Derived.Laws.Closers25b
import Derived.WalkKit
import Derived.BigCall
import Derived.BigGuard
namespace Go.Proofs.YtfjdeacpdcnjpaaGreatDoor.V
open Go.Shelf Go.RowKit

/-- The number of hexadecimal figures, behind those that gave acc. -/
def hexL (acc : Nat) : List UInt8 → Option Nat
  | [] => some acc
  | c :: r => match hexv c with
    | some v => hexL (acc * 16 + v) r
    | none => none
theorem hex4_hexL (a b c d : UInt8) : hex4 a b c d = hexL 0 [a, b, c, d] := by
  unfold hex4
  simp only [hexL]
  cases hexv a <;> cases hexv b <;> cases hexv c <;> cases hexv d <;> simp
theorem hexv_lt (c : UInt8) (v : Nat) (h : hexv c = some v) : v < 16 := by
  unfold hexv at h
  split at h
  · cases h; omega
  · split at h
    · cases h; omega
    · split at h
      · cases h; omega
      · cases h

/-- What a byte is, by its small letter. -/
theorem hexv_cases_fin : ∀ n : Fin 256, (48 ≤ n.val ∧ n.val ≤ 57 ∧ hexv (UInt8.ofNat n.val) = some (n.val - 48)) ∨
    (n.val ≠ 95 ∧ ¬ (48 ≤ n.val ∧ n.val ≤ 57) ∧ 97 ≤ bits .or .u8 (n.val : Int) 32 ∧ bits .or .u8 (n.val : Int) 32 ≤ 102 ∧ hexv (UInt8.ofNat n.val) = some (bits .or .u8 (n.val : Int) 32 - 87).toNat) ∨
    (¬ (48 ≤ n.val ∧ n.val ≤ 57) ∧ (bits .or .u8 (n.val : Int) 32 < 97 ∨ 102 < bits .or .u8 (n.val : Int) 32) ∧ hexv (UInt8.ofNat n.val) = none) := by decide +kernel
theorem hexv_cases (c : UInt8) : (48 ≤ c.toNat ∧ c.toNat ≤ 57 ∧ hexv c = some (c.toNat - 48)) ∨
    (c.toNat ≠ 95 ∧ ¬ (48 ≤ c.toNat ∧ c.toNat ≤ 57) ∧ 97 ≤ bits .or .u8 (c.toNat : Int) 32 ∧ bits .or .u8 (c.toNat : Int) 32 ≤ 102 ∧ hexv c = some (bits .or .u8 (c.toNat : Int) 32 - 87).toNat) ∨
    (¬ (48 ≤ c.toNat ∧ c.toNat ≤ 57) ∧ (bits .or .u8 (c.toNat : Int) 32 < 97 ∨ 102 < bits .or .u8 (c.toNat : Int) 32) ∧ hexv c = none) := by
  have h := hexv_cases_fin ⟨c.toNat, c.toNat_lt⟩
  simpa using h

/-- What internal/strconv.ParseUint hands back. -/
def hexTuple : Option Nat → Value
  | some n => .tuple #[.int .u64 n, .nilIface]
  | none => .tuple #[.int .u64 0, .iface 130 (.int .i64 2)]

set_option maxHeartbeats 4000000 in
set_option maxRecDepth 100000 in
theorem inner_hex (t : ByteArray) (h4 : t.size = 4) (w : World) :
    Calls Tryz.prog 103 #[.string t, .int .i64 16, .int .i64 16] w fun e w' => e = .returned (hexTuple (hexL 0 t.data.toList)) ∧ w' = Lib.bytesWorld w 5 t := by
  have hemp : t.toList.isEmpty = false := by
    rw [← decide_eq_emptyBytes]
    exact decide_eq_false (fun h => by rw [h] at h4; exact absurd h4 (by decide))
  have hcv := Lib.run_convert_string_bytes (P := Tryz.prog) w 9 50 5 t (u := .string) Tryz.underlying9 Tryz.underlying50 Tryz.underlying5
  have hB : ∀ j, j < t.size → (Lib.bytesWorld w 5 t).cell? ⟨w.heap.size, j, none⟩ = some (.int .u8 (t.data.toList.getD j 0).toNat) := fun j hj => Lib.bytesWorld_cell w 5 t j hj
  obtain ⟨W1, hW1⟩ : ∃ W1, W1 = Lib.bytesWorld w 5 t := ⟨_, rfl⟩
  rw [← hW1] at hcv hB ⊢
  clear hW1
  obtain ⟨bs, hL⟩ : ∃ bs, bs = t.data.toList := ⟨_, rfl⟩
  have hLn : bs.length = t.size := by rw [hL, Lib.size_eq]
  rw [← hL] at hB ⊢
  clear hL
  have HLn := Lib.hid hLn
  have H4 := Lib.hid h4
  have hts : t.size ≤ 4 := by omega
  clear hLn h4
  have hmv : IntKind.u64.wrap (IntKind.u64.wrap 65536 - 1) = 65535 := by
    rw [IntKind.wrap_u64, IntKind.wrap_u64]
    decide
  go_enter Tryz.func103, Tryz.ntmps103
  go_wp2
  go_loop [12, 13, 101] (fun vu vn vi => ∃ (k acc : Nat) (a : Int), vu = .bool false ∧ vn = .int .u64 a ∧ vi = .int .i64 k ∧ k ≤ t.size ∧ Hid (a = (acc : Int) ∧ acc < 16 ^ k ∧ hexL 0 bs = hexL acc (bs.drop k)))
    (fun _ _ vi => t.size - (intOf vi).toNat)
  case atStart => exact ⟨0, 0, 0, rfl, rfl, rfl, by omega, rfl, by omega, rfl⟩
  case round =>
    obtain ⟨k, acc, a, rfl, rfl, rfl, hk, hh⟩ := hrel
    obtain ⟨ha, hacc, hdec⟩ := hh.out
    clear hh
    have a0 : 0 ≤ a := by omega
    by_cases hkn : k < t.size
    · have hk3 : k ≤ 3 := by omega
      have hp : acc < 4096 := Nat.lt_of_lt_of_le hacc (Nat.le_trans (Nat.pow_le_pow_right (by decide) hk3) (by decide))
      have a1 : a < 4096 := by omega
      have hc := hB k hkn
      have hdrop : bs.drop k = bs[k]'(by have := HLn.out; omega) :: bs.drop (k + 1) := List.drop_eq_getElem_cons (by have := HLn.out; omega)
      have hget : bs.getD k 0 = bs[k]'(by have := HLn.out; omega) := by simp [List.getD, List.getElem?_eq_getElem (show k < bs.length by have := HLn.out; omega)]
      rw [hdrop] at hdec
      rw [hget] at hc
      generalize bs[k]'(by have := HLn.out; omega) = c at hc hdec
      have hc256 : c.toNat < 256 := c.toNat_lt
      clear hB hdrop hget
      rcases hexv_cases c with ⟨hd0, hd1, hv⟩ | ⟨h95, hnd, hl0, hl1, hv⟩ | ⟨hnd, hl, hv⟩
      · have hF : hexL acc (c :: bs.drop (k + 1)) = hexL (acc * 16 + (c.toNat - 48)) (bs.drop (k + 1)) := by simp only [hexL, hv]
        have HN : Hid (a * 16 + ((c.toNat : Int) - 48) = ((acc * 16 + (c.toNat - 48) : Nat) : Int) ∧ acc * 16 + (c.toNat - 48) < 16 ^ (k + 1) ∧ hexL 0 bs = hexL (acc * 16 + (c.toNat - 48)) (bs.drop (k + 1))) := Lib.hid ⟨by omega, by rw [Nat.pow_succ]; omega, by rw [hdec, hF]⟩
        clear hacc hF hdec ha hv hp
        go_wp2
        refine ⟨⟨k + 1, acc * 16 + (c.toNat - 48), a * 16 + ((c.toNat : Int) - 48), rfl, (by first | rfl | (congr 1; omega)), (by first | rfl | (congr 1; omega)), by omega, HN⟩, by simp [intOf]; omega⟩
      · have hF : hexL acc (c :: bs.drop (k + 1)) = hexL (acc * 16 + (bits .or .u8 (c.toNat : Int) 32 - 87).toNat) (bs.drop (k + 1)) := by simp only [hexL, hv]
        obtain ⟨L, hLL⟩ : ∃ L, bits .or .u8 (c.toNat : Int) 32 = L := ⟨_, rfl⟩
        have hcl : ∀ W, Calls Tryz.prog 106 #[.int .u8 c.toNat] W fun e w' => e = .returned (.int .u8 L) ∧ w' = W := fun W => by
          have h := Tryz.internal_strconv_lower (c.toNat : Int) W
          rw [hLL] at h; exact h
        rw [hLL] at hl0 hl1 hF
        have HN : Hid (a * 16 + (L - 87) = ((acc * 16 + (L - 87).toNat : Nat) : Int) ∧ acc * 16 + (L - 87).toNat < 16 ^ (k + 1) ∧ hexL 0 bs = hexL (acc * 16 + (L - 87).toNat) (bs.drop (k + 1))) := Lib.hid ⟨by omega, by rw [Nat.pow_succ]; omega, by rw [hdec, hF]⟩
        have hb95 : ((c.toNat : Int) == 95) = false := by simp; omega
        clear hacc hF hdec ha hv hp hLL h95
        go_wp2_with (go_at_call 106; refine (hcl _).mono ?_; rintro e w' ⟨rfl, rfl⟩)
        all_goals refine ⟨⟨k + 1, acc * 16 + (L - 87).toNat, a * 16 + (L - 87), rfl, (by first | rfl | (congr 1; omega)), (by first | rfl | (congr 1; omega)), by omega, HN⟩, by simp [intOf]; omega⟩
      · have hF : hexL acc (c :: bs.drop (k + 1)) = none := by simp only [hexL, hv]
        rw [hF] at hdec
        have HD := Lib.hid hdec
        clear hacc hF ha hv hp hdec
        by_cases h95 : c.toNat = 95
        · have hcl : ∀ W, Calls Tryz.prog 106 #[.int .u8 95] W fun e w' => e = .returned (.int .u8 127) ∧ w' = W := fun W => by
            have h := Tryz.internal_strconv_lower 95 W
            rw [show bits .or .u8 95 32 = 127 from by decide +kernel] at h; exact h
          have hc95 : W1.cell? ⟨w.heap.size, k, none⟩ = some (.int .u8 95) := by rw [hc, h95]; rfl
          clear hc h95 hl hnd hc256
          go_wp2_with (go_at_call 106; refine (hcl _).mono ?_; rintro e w' ⟨rfl, rfl⟩)
          all_goals go_ret2
          all_goals exact ⟨by rw [HD.out]; rfl, rfl⟩
        · have hb95 : ((c.toNat : Int) == 95) = false := by simp; omega
          clear h95
          obtain ⟨L, hLL⟩ : ∃ L, bits .or .u8 (c.toNat : Int) 32 = L := ⟨_, rfl⟩
          have hcl : ∀ W, Calls Tryz.prog 106 #[.int .u8 c.toNat] W fun e w' => e = .returned (.int .u8 L) ∧ w' = W := fun W => by
            have h := Tryz.internal_strconv_lower (c.toNat : Int) W
            rw [hLL] at h; exact h
          have hv0 := bits_lo_u8 .or (c.toNat : Int) 32
          have hv1 := bits_hi_u8 .or (c.toNat : Int) 32
          rw [hLL] at hl hv0 hv1
          clear hLL
          rcases hl with hl | hl
          · go_wp2_with (go_at_call 106; refine (hcl _).mono ?_; rintro e w' ⟨rfl, rfl⟩)
            all_goals go_ret2
            all_goals exact ⟨by rw [HD.out]; rfl, rfl⟩
          · by_cases hl2 : L ≤ 122
            · go_wp2_with (go_at_call 106; refine (hcl _).mono ?_; rintro e w' ⟨rfl, rfl⟩)
              all_goals go_ret2
              all_goals exact ⟨by rw [HD.out]; rfl, rfl⟩
            · go_wp2_with (go_at_call 106; refine (hcl _).mono ?_; rintro e w' ⟨rfl, rfl⟩)
              all_goals go_ret2
              all_goals exact ⟨by rw [HD.out]; rfl, rfl⟩
    · have hkk : k = t.size := by omega
      subst hkk
      have hF : hexL acc (bs.drop t.size) = some acc := by rw [List.drop_eq_nil_of_le (by have := HLn.out; omega)]; rfl
      rw [hF] at hdec
      have HD := Lib.hid hdec
      subst ha
      clear hacc hF a0 hdec
      go_wp2
      go_ret2
      exact ⟨by rw [HD.out]; rfl, rfl⟩
end Go.Proofs.YtfjdeacpdcnjpaaGreatDoor.V

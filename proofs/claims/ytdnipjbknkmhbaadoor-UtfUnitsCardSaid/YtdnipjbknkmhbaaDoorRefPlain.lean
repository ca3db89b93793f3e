/- Plain facts under the document's own answer for layer 1: the first scalar of a text by its bytes is the decoder's, or none; the places of all scalars, as two lists; what is found in them is what the calls answer. It imports nothing of the program. -/
import Derived.Test.YtdnipjbknkmhbaaDoorPlain
namespace Go.Proofs.YtdnipjbknkmhbaaDoor.U
open Go.Lib

/-- The first scalar of a text; (0, 0): it begins with none. -/
def scal (s : ByteArray) : Nat × Nat := if (Utf8.decode s 0).1 = 65533 ∧ (Utf8.decode s 0).2 = 1 then (0, 0) else Utf8.decode s 0
/-- The bytes behind the first one, gone through. -/
def contF (s : ByteArray) (n : Nat) : Nat → Nat → Nat → Option Nat
  | 0, _, c => some c
  | f + 1, i, c => if i < n then (if (s.get! i).toNat < 128 ∨ 192 ≤ (s.get! i).toNat then none else contF s n f (i + 1) (64 * c + (s.get! i).toNat - 128)) else some c
def refFin (least n : Nat) : Option Nat → Nat × Nat
  | none => (0, 0)
  | some c => if c < least ∨ 1114111 < c ∨ (55296 ≤ c ∧ c ≤ 57343) then (0, 0) else (c, n)
def refC (s : ByteArray) (n least c : Nat) : Nat × Nat := if s.size < n then (0, 0) else refFin least n (contF s n (n - 1) 1 c)

theorem refFin_bad (least n c : Nat) (h : c < least ∨ 1114111 < c ∨ (55296 ≤ c ∧ c ≤ 57343)) : refFin least n (some c) = (0, 0) := by
  simp only [refFin]; rw [if_pos h]
theorem refFin_ok (least n c : Nat) (h1 : ¬ c < least) (h2 : ¬ 1114111 < c) (h3 : ¬ (55296 ≤ c ∧ c ≤ 57343)) : refFin least n (some c) = (c, n) := by
  simp only [refFin]; rw [if_neg (fun h => h.elim h1 fun h => h.elim h2 h3)]
theorem contF_bad (s : ByteArray) (n f i c : Nat) (hi : i < n) (h : (s.get! i).toNat < 128 ∨ 192 ≤ (s.get! i).toNat) : contF s n (f + 1) i c = none := by
  simp only [contF]; rw [if_pos hi, if_pos h]
theorem contF_on (s : ByteArray) (n f i c : Nat) (hi : i < n) (h : ¬ ((s.get! i).toNat < 128 ∨ 192 ≤ (s.get! i).toNat)) : contF s n (f + 1) i c = contF s n f (i + 1) (64 * c + (s.get! i).toNat - 128) := by
  simp only [contF]; rw [if_pos hi, if_neg h]
theorem contF_done (s : ByteArray) (n f i c : Nat) (hi : ¬ i < n) : contF s n f i c = some c := by
  cases f <;> simp only [contF]; rw [if_neg hi]

def scalN (n b0 b1 b2 b3 : Nat) : Nat × Nat := if (decodeN n b0 b1 b2 b3).1 = 65533 ∧ (decodeN n b0 b1 b2 b3).2 = 1 then (0, 0) else decodeN n b0 b1 b2 b3
theorem scal_eq (s : ByteArray) : scal s = scalN s.size (s.get! 0).toNat (s.get! 1).toNat (s.get! 2).toNat (s.get! 3).toNat := by
  unfold scal scalN
  rw [decode_at]
  rfl
theorem scalN_bad {n b0 b1 b2 b3 : Nat} (h : decodeN n b0 b1 b2 b3 = (65533, 1)) : scalN n b0 b1 b2 b3 = (0, 0) := by
  unfold scalN; rw [h]; simp
theorem scalN_good {n b0 b1 b2 b3 c k : Nat} (h : decodeN n b0 b1 b2 b3 = (c, k)) (hk : 1 < k ∨ c < 65533) : scalN n b0 b1 b2 b3 = (c, k) := by
  unfold scalN; rw [h]; rw [if_neg (by simp only; omega)]
theorem ref1 (s : ByteArray) (h : (s.get! 0).toNat < 128) : scal s = ((s.get! 0).toNat, 1) := by
  rw [scal_eq]
  generalize (s.get! 0).toNat = b0 at *
  exact scalN_good (by unfold decodeN; rw [if_pos h]) (by omega)
theorem ref0 (s : ByteArray) (h : ¬ (s.get! 0).toNat < 128) (h2 : ¬ (192 ≤ (s.get! 0).toNat ∧ (s.get! 0).toNat < 224)) (h3 : ¬ (224 ≤ (s.get! 0).toNat ∧ (s.get! 0).toNat < 240)) (h4 : ¬ (240 ≤ (s.get! 0).toNat ∧ (s.get! 0).toNat < 248)) : scal s = (0, 0) := by
  rw [scal_eq]
  have hb : (s.get! 0).toNat < 256 := UInt8.toNat_lt _
  generalize (s.get! 0).toNat = b0 at *
  exact scalN_bad (by unfold decodeN; rw [if_neg h, if_neg (by omega), if_neg (by omega), if_neg (by omega)])
set_option maxHeartbeats 4000000 in
theorem ref2 (s : ByteArray) (h : 192 ≤ (s.get! 0).toNat) (h2 : (s.get! 0).toNat < 224) : scal s = refC s 2 128 ((s.get! 0).toNat - 192) := by
  rw [scal_eq]
  have c1 : (s.get! 1).toNat < 256 := UInt8.toNat_lt _
  have c2 : (s.get! 2).toNat < 256 := UInt8.toNat_lt _
  have c3 : (s.get! 3).toNat < 256 := UInt8.toNat_lt _
  unfold refC
  simp only [contF]
  generalize (s.get! 0).toNat = b0 at *
  generalize (s.get! 1).toNat = b1 at *
  generalize (s.get! 2).toNat = b2 at *
  generalize (s.get! 3).toNat = b3 at *
  generalize s.size = z at *
  by_cases hs : z < 2
  · rw [if_pos hs]
    exact scalN_bad (by unfold decodeN; repeat rw [if_neg (by omega)])
  · rw [if_neg hs, if_pos (by omega)]
    by_cases q1 : b1 < 128 ∨ 192 ≤ b1
    · rw [if_pos q1]
      exact scalN_bad (by unfold decodeN; repeat rw [if_neg (by omega)])
    rw [if_neg q1]
    simp only [refFin]
    by_cases q : 64 * (b0 - 192) + b1 - 128 < 128 ∨ 1114111 < 64 * (b0 - 192) + b1 - 128 ∨ (55296 ≤ 64 * (b0 - 192) + b1 - 128 ∧ 64 * (b0 - 192) + b1 - 128 ≤ 57343)
    · rw [if_pos q]
      exact scalN_bad (by unfold decodeN; rw [if_neg (by omega), if_pos (by omega)]; rw [if_neg (by omega)])
    · rw [if_neg q]
      exact scalN_good (by unfold decodeN; rw [if_neg (by omega), if_pos (by omega)]; rw [if_pos (by omega)]; exact Prod.ext (by simp only; omega) rfl) (by omega)
set_option maxHeartbeats 4000000 in
theorem ref3 (s : ByteArray) (h : 224 ≤ (s.get! 0).toNat) (h2 : (s.get! 0).toNat < 240) : scal s = refC s 3 2048 ((s.get! 0).toNat - 224) := by
  rw [scal_eq]
  have c1 : (s.get! 1).toNat < 256 := UInt8.toNat_lt _
  have c2 : (s.get! 2).toNat < 256 := UInt8.toNat_lt _
  have c3 : (s.get! 3).toNat < 256 := UInt8.toNat_lt _
  unfold refC
  simp only [contF]
  generalize (s.get! 0).toNat = b0 at *
  generalize (s.get! 1).toNat = b1 at *
  generalize (s.get! 2).toNat = b2 at *
  generalize (s.get! 3).toNat = b3 at *
  generalize s.size = z at *
  by_cases hs : z < 3
  · rw [if_pos hs]
    exact scalN_bad (by unfold decodeN; repeat rw [if_neg (by omega)])
  · rw [if_neg hs, if_pos (by omega)]
    by_cases q1 : b1 < 128 ∨ 192 ≤ b1
    · rw [if_pos q1]
      exact scalN_bad (by unfold decodeN; repeat rw [if_neg (by omega)])
    rw [if_neg q1]
    rw [if_pos (by omega)]
    by_cases q2 : b2 < 128 ∨ 192 ≤ b2
    · rw [if_pos q2]
      exact scalN_bad (by unfold decodeN; repeat rw [if_neg (by omega)])
    rw [if_neg q2]
    simp only [refFin]
    by_cases q : 64 * (64 * (b0 - 224) + b1 - 128) + b2 - 128 < 2048 ∨ 1114111 < 64 * (64 * (b0 - 224) + b1 - 128) + b2 - 128 ∨ (55296 ≤ 64 * (64 * (b0 - 224) + b1 - 128) + b2 - 128 ∧ 64 * (64 * (b0 - 224) + b1 - 128) + b2 - 128 ≤ 57343)
    · rw [if_pos q]
      exact scalN_bad (by unfold decodeN; rw [if_neg (by omega), if_neg (by omega), if_pos (by omega)]; rw [if_neg (by omega)])
    · rw [if_neg q]
      exact scalN_good (by unfold decodeN; rw [if_neg (by omega), if_neg (by omega), if_pos (by omega)]; rw [if_pos (by omega)]; exact Prod.ext (by simp only; omega) rfl) (by omega)
set_option maxHeartbeats 4000000 in
theorem ref4 (s : ByteArray) (h : 240 ≤ (s.get! 0).toNat) (h2 : (s.get! 0).toNat < 248) : scal s = refC s 4 65536 ((s.get! 0).toNat - 240) := by
  rw [scal_eq]
  have c1 : (s.get! 1).toNat < 256 := UInt8.toNat_lt _
  have c2 : (s.get! 2).toNat < 256 := UInt8.toNat_lt _
  have c3 : (s.get! 3).toNat < 256 := UInt8.toNat_lt _
  unfold refC
  simp only [contF]
  generalize (s.get! 0).toNat = b0 at *
  generalize (s.get! 1).toNat = b1 at *
  generalize (s.get! 2).toNat = b2 at *
  generalize (s.get! 3).toNat = b3 at *
  generalize s.size = z at *
  by_cases hs : z < 4
  · rw [if_pos hs]
    exact scalN_bad (by unfold decodeN; repeat rw [if_neg (by omega)])
  · rw [if_neg hs, if_pos (by omega)]
    by_cases q1 : b1 < 128 ∨ 192 ≤ b1
    · rw [if_pos q1]
      exact scalN_bad (by unfold decodeN; repeat rw [if_neg (by omega)])
    rw [if_neg q1]
    rw [if_pos (by omega)]
    by_cases q2 : b2 < 128 ∨ 192 ≤ b2
    · rw [if_pos q2]
      exact scalN_bad (by unfold decodeN; repeat rw [if_neg (by omega)])
    rw [if_neg q2]
    rw [if_pos (by omega)]
    by_cases q3 : b3 < 128 ∨ 192 ≤ b3
    · rw [if_pos q3]
      exact scalN_bad (by unfold decodeN; repeat rw [if_neg (by omega)])
    rw [if_neg q3]
    simp only [refFin]
    by_cases q : 64 * (64 * (64 * (b0 - 240) + b1 - 128) + b2 - 128) + b3 - 128 < 65536 ∨ 1114111 < 64 * (64 * (64 * (b0 - 240) + b1 - 128) + b2 - 128) + b3 - 128 ∨ (55296 ≤ 64 * (64 * (64 * (b0 - 240) + b1 - 128) + b2 - 128) + b3 - 128 ∧ 64 * (64 * (64 * (b0 - 240) + b1 - 128) + b2 - 128) + b3 - 128 ≤ 57343)
    · rw [if_pos q]
      exact scalN_bad (by unfold decodeN; rw [if_neg (by omega), if_neg (by omega), if_neg (by omega), if_pos (by omega)]; rw [if_neg (by omega)])
    · rw [if_neg q]
      exact scalN_good (by unfold decodeN; rw [if_neg (by omega), if_neg (by omega), if_neg (by omega), if_pos (by omega)]; rw [if_pos (by omega)]; exact Prod.ext (by simp only; omega) rfl) (by omega)
end Go.Proofs.YtdnipjbknkmhbaaDoor.U

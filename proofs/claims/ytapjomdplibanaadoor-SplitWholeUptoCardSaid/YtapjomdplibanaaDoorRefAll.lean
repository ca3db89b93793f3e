/- Plain facts under the document's own answer for layer 1: the first scalar of a text by its bytes is the decoder's, or none; the places of all scalars, as two lists; what is found in them is what the calls answer. It imports nothing of the program. Contract of the document's own answer for the first scalar of a text (boltholeref01.scalar): it is the decoder's, or none, at every text that is not empty; memory is left alone. The first scalar of a text, by the document's own answer: one byte, and two. The first scalar of a text, by the document's own answer: three bytes. The first scalar of a text, by the document's own answer: four bytes. The first scalar of a text, by the document's own answer: it is the decoder's, or none. Plain facts on the places of a text's scalars as two lists (bytes, and units, ahead of each, and at the end): what is found in them is what the calls answer. It imports nothing of the program. Contract of the document's own answer for the places of a text's scalars (boltholeref01.places): two new lists, or, if the text is not right, none; memory that was there is as it was. The contract of the document's own Right for layer 1 (boltholeref01): it answers what package utf's answers; memory that was there is as it was. Condition: texts of at most 1,000,000 bytes. -/
import Derived.Test.YtapjomdplibanaaDoorPlain
import Derived.Test.YtapjomdplibanaaDoorProg
import Derived.WalkKit
import Derived.WalkMore
import Derived.Below
import Derived.Lib.Hide
import Derived.Shelf.Unicode.DecodeSlow
import Derived.WalkSmall
import Derived.Deep.DeepMust
import Derived.Maps.AppendAt
namespace Go.Proofs.YtapjomdplibanaaDoor.U
open Go.Lib

/-- The first scalar of a text; (0, 0): it begins with none. -/
def scal (s : ByteArray) : Nat × Nat := if (Utf8.decode s 0).1 = 65533 ∧ (Utf8.decode s 0).2 = 1 then (0, 0) else Utf8.decode s 0
/-- The bytes behind the first one, gone through. -/
def contF (s : ByteArray) (n : Nat) : Nat → Nat → Nat → Option Nat
  | 0, _, c => some c
  | f + 1, i, c => if i < n then (if (s.get! i).toNat < 128 ∨ 192 ≤ (s.get! i).toNat then none else contF s n f (i + 1) (64 * c + (s.get! i).toNat - 128)) else some c
def refFin (least n : Nat) : Option Nat → Nat × Nat
  | none => (0, 0)
  | some c => if c < least ∨ 1114111 < c ∨ (55296 ≤ c ∧ c ≤ 57343) then (0, 0) else (c, n)
def refC (s : ByteArray) (n least c : Nat) : Nat × Nat := if s.size < n then (0, 0) else refFin least n (contF s n (n - 1) 1 c)

theorem refFin_bad (least n c : Nat) (h : c < least ∨ 1114111 < c ∨ (55296 ≤ c ∧ c ≤ 57343)) : refFin least n (some c) = (0, 0) := by
  simp only [refFin]; rw [if_pos h]
theorem refFin_ok (least n c : Nat) (h1 : ¬ c < least) (h2 : ¬ 1114111 < c) (h3 : ¬ (55296 ≤ c ∧ c ≤ 57343)) : refFin least n (some c) = (c, n) := by
  simp only [refFin]; rw [if_neg (fun h => h.elim h1 fun h => h.elim h2 h3)]
theorem contF_bad (s : ByteArray) (n f i c : Nat) (hi : i < n) (h : (s.get! i).toNat < 128 ∨ 192 ≤ (s.get! i).toNat) : contF s n (f + 1) i c = none := by
  simp only [contF]; rw [if_pos hi, if_pos h]
theorem contF_on (s : ByteArray) (n f i c : Nat) (hi : i < n) (h : ¬ ((s.get! i).toNat < 128 ∨ 192 ≤ (s.get! i).toNat)) : contF s n (f + 1) i c = contF s n f (i + 1) (64 * c + (s.get! i).toNat - 128) := by
  simp only [contF]; rw [if_pos hi, if_neg h]
theorem contF_done (s : ByteArray) (n f i c : Nat) (hi : ¬ i < n) : contF s n f i c = some c := by
  cases f <;> simp only [contF]; rw [if_neg hi]

def scalN (n b0 b1 b2 b3 : Nat) : Nat × Nat := if (decodeN n b0 b1 b2 b3).1 = 65533 ∧ (decodeN n b0 b1 b2 b3).2 = 1 then (0, 0) else decodeN n b0 b1 b2 b3
theorem scal_eq (s : ByteArray) : scal s = scalN s.size (s.get! 0).toNat (s.get! 1).toNat (s.get! 2).toNat (s.get! 3).toNat := by
  unfold scal scalN
  rw [decode_at]
  rfl
theorem scalN_bad {n b0 b1 b2 b3 : Nat} (h : decodeN n b0 b1 b2 b3 = (65533, 1)) : scalN n b0 b1 b2 b3 = (0, 0) := by
  unfold scalN; rw [h]; simp
theorem scalN_good {n b0 b1 b2 b3 c k : Nat} (h : decodeN n b0 b1 b2 b3 = (c, k)) (hk : 1 < k ∨ c < 65533) : scalN n b0 b1 b2 b3 = (c, k) := by
  unfold scalN; rw [h]; rw [if_neg (by simp only; omega)]
theorem ref1 (s : ByteArray) (h : (s.get! 0).toNat < 128) : scal s = ((s.get! 0).toNat, 1) := by
  rw [scal_eq]
  generalize (s.get! 0).toNat = b0 at *
  exact scalN_good (by unfold decodeN; rw [if_pos h]) (by omega)
theorem ref0 (s : ByteArray) (h : ¬ (s.get! 0).toNat < 128) (h2 : ¬ (192 ≤ (s.get! 0).toNat ∧ (s.get! 0).toNat < 224)) (h3 : ¬ (224 ≤ (s.get! 0).toNat ∧ (s.get! 0).toNat < 240)) (h4 : ¬ (240 ≤ (s.get! 0).toNat ∧ (s.get! 0).toNat < 248)) : scal s = (0, 0) := by
  rw [scal_eq]
  have hb : (s.get! 0).toNat < 256 := UInt8.toNat_lt _
  generalize (s.get! 0).toNat = b0 at *
  exact scalN_bad (by unfold decodeN; rw [if_neg h, if_neg (by omega), if_neg (by omega), if_neg (by omega)])
set_option maxHeartbeats 4000000 in
theorem ref2 (s : ByteArray) (h : 192 ≤ (s.get! 0).toNat) (h2 : (s.get! 0).toNat < 224) : scal s = refC s 2 128 ((s.get! 0).toNat - 192) := by
  rw [scal_eq]
  have c1 : (s.get! 1).toNat < 256 := UInt8.toNat_lt _
  have c2 : (s.get! 2).toNat < 256 := UInt8.toNat_lt _
  have c3 : (s.get! 3).toNat < 256 := UInt8.toNat_lt _
  unfold refC
  simp only [contF]
  generalize (s.get! 0).toNat = b0 at *
  generalize (s.get! 1).toNat = b1 at *
  generalize (s.get! 2).toNat = b2 at *
  generalize (s.get! 3).toNat = b3 at *
  generalize s.size = z at *
  by_cases hs : z < 2
  · rw [if_pos hs]
    exact scalN_bad (by unfold decodeN; repeat rw [if_neg (by omega)])
  · rw [if_neg hs, if_pos (by omega)]
    by_cases q1 : b1 < 128 ∨ 192 ≤ b1
    · rw [if_pos q1]
      exact scalN_bad (by unfold decodeN; repeat rw [if_neg (by omega)])
    rw [if_neg q1]
    simp only [refFin]
    by_cases q : 64 * (b0 - 192) + b1 - 128 < 128 ∨ 1114111 < 64 * (b0 - 192) + b1 - 128 ∨ (55296 ≤ 64 * (b0 - 192) + b1 - 128 ∧ 64 * (b0 - 192) + b1 - 128 ≤ 57343)
    · rw [if_pos q]
      exact scalN_bad (by unfold decodeN; rw [if_neg (by omega), if_pos (by omega)]; rw [if_neg (by omega)])
    · rw [if_neg q]
      exact scalN_good (by unfold decodeN; rw [if_neg (by omega), if_pos (by omega)]; rw [if_pos (by omega)]; exact Prod.ext (by simp only; omega) rfl) (by omega)
set_option maxHeartbeats 4000000 in
theorem ref3 (s : ByteArray) (h : 224 ≤ (s.get! 0).toNat) (h2 : (s.get! 0).toNat < 240) : scal s = refC s 3 2048 ((s.get! 0).toNat - 224) := by
  rw [scal_eq]
  have c1 : (s.get! 1).toNat < 256 := UInt8.toNat_lt _
  have c2 : (s.get! 2).toNat < 256 := UInt8.toNat_lt _
  have c3 : (s.get! 3).toNat < 256 := UInt8.toNat_lt _
  unfold refC
  simp only [contF]
  generalize (s.get! 0).toNat = b0 at *
  generalize (s.get! 1).toNat = b1 at *
  generalize (s.get! 2).toNat = b2 at *
  generalize (s.get! 3).toNat = b3 at *
  generalize s.size = z at *
  by_cases hs : z < 3
  · rw [if_pos hs]
    exact scalN_bad (by unfold decodeN; repeat rw [if_neg (by omega)])
  · rw [if_neg hs, if_pos (by omega)]
    by_cases q1 : b1 < 128 ∨ 192 ≤ b1
    · rw [if_pos q1]
      exact scalN_bad (by unfold decodeN; repeat rw [if_neg (by omega)])
    rw [if_neg q1]
    rw [if_pos (by omega)]
    by_cases q2 : b2 < 128 ∨ 192 ≤ b2
    · rw [if_pos q2]
      exact scalN_bad (by unfold decodeN; repeat rw [if_neg (by omega)])
    rw [if_neg q2]
    simp only [refFin]
    by_cases q : 64 * (64 * (b0 - 224) + b1 - 128) + b2 - 128 < 2048 ∨ 1114111 < 64 * (64 * (b0 - 224) + b1 - 128) + b2 - 128 ∨ (55296 ≤ 64 * (64 * (b0 - 224) + b1 - 128) + b2 - 128 ∧ 64 * (64 * (b0 - 224) + b1 - 128) + b2 - 128 ≤ 57343)
    · rw [if_pos q]
      exact scalN_bad (by unfold decodeN; rw [if_neg (by omega), if_neg (by omega), if_pos (by omega)]; rw [if_neg (by omega)])
    · rw [if_neg q]
      exact scalN_good (by unfold decodeN; rw [if_neg (by omega), if_neg (by omega), if_pos (by omega)]; rw [if_pos (by omega)]; exact Prod.ext (by simp only; omega) rfl) (by omega)
set_option maxHeartbeats 4000000 in
theorem ref4 (s : ByteArray) (h : 240 ≤ (s.get! 0).toNat) (h2 : (s.get! 0).toNat < 248) : scal s = refC s 4 65536 ((s.get! 0).toNat - 240) := by
  rw [scal_eq]
  have c1 : (s.get! 1).toNat < 256 := UInt8.toNat_lt _
  have c2 : (s.get! 2).toNat < 256 := UInt8.toNat_lt _
  have c3 : (s.get! 3).toNat < 256 := UInt8.toNat_lt _
  unfold refC
  simp only [contF]
  generalize (s.get! 0).toNat = b0 at *
  generalize (s.get! 1).toNat = b1 at *
  generalize (s.get! 2).toNat = b2 at *
  generalize (s.get! 3).toNat = b3 at *
  generalize s.size = z at *
  by_cases hs : z < 4
  · rw [if_pos hs]
    exact scalN_bad (by unfold decodeN; repeat rw [if_neg (by omega)])
  · rw [if_neg hs, if_pos (by omega)]
    by_cases q1 : b1 < 128 ∨ 192 ≤ b1
    · rw [if_pos q1]
      exact scalN_bad (by unfold decodeN; repeat rw [if_neg (by omega)])
    rw [if_neg q1]
    rw [if_pos (by omega)]
    by_cases q2 : b2 < 128 ∨ 192 ≤ b2
    · rw [if_pos q2]
      exact scalN_bad (by unfold decodeN; repeat rw [if_neg (by omega)])
    rw [if_neg q2]
    rw [if_pos (by omega)]
    by_cases q3 : b3 < 128 ∨ 192 ≤ b3
    · rw [if_pos q3]
      exact scalN_bad (by unfold decodeN; repeat rw [if_neg (by omega)])
    rw [if_neg q3]
    simp only [refFin]
    by_cases q : 64 * (64 * (64 * (b0 - 240) + b1 - 128) + b2 - 128) + b3 - 128 < 65536 ∨ 1114111 < 64 * (64 * (64 * (b0 - 240) + b1 - 128) + b2 - 128) + b3 - 128 ∨ (55296 ≤ 64 * (64 * (64 * (b0 - 240) + b1 - 128) + b2 - 128) + b3 - 128 ∧ 64 * (64 * (64 * (b0 - 240) + b1 - 128) + b2 - 128) + b3 - 128 ≤ 57343)
    · rw [if_pos q]
      exact scalN_bad (by unfold decodeN; rw [if_neg (by omega), if_neg (by omega), if_neg (by omega), if_pos (by omega)]; rw [if_neg (by omega)])
    · rw [if_neg q]
      exact scalN_good (by unfold decodeN; rw [if_neg (by omega), if_neg (by omega), if_neg (by omega), if_pos (by omega)]; rw [if_pos (by omega)]; exact Prod.ext (by simp only; omega) rfl) (by omega)
end Go.Proofs.YtapjomdplibanaaDoor.U

namespace Go.Proofs.YtapjomdplibanaaDoor.U
open Go.RowKit
open Go.Lib hiding intOf

def TwoN (p : Nat × Nat) (w : World) (e : Ending) (w' : World) : Prop := e = .returned (.tuple #[.int .i64 p.1, .int .i64 p.2]) ∧ w = w'
theorem twoN {p : Nat × Nat} {a b : Int} {w : World} (h1 : a = (p.1 : Int)) (h2 : b = (p.2 : Int)) : TwoN p w (.returned (.tuple #[.int .i64 a, .int .i64 b])) w := ⟨by rw [h1, h2], rfl⟩
theorem get_at (s : ByteArray) (i : Nat) (h : i < s.size) : s[i]'h = s.get! i := (Utf8W.get!_of_lt s i h).symm

end Go.Proofs.YtapjomdplibanaaDoor.U

namespace Go.Proofs.YtapjomdplibanaaDoor.U
open Go.RowKit
open Go.Lib hiding intOf

theorem scalar_one (s : ByteArray) (w : World) (h0 : 0 < s.size) (_hs : s.size ≤ 1099511627776) (x : UInt8) (hx : s.get! 0 = x) (h : x.toNat < 128) :
    Calls Tryd.prog 32 #[.string s] w (TwoN (x.toNat, 1) w) := by
  have hs0 : s[0]'h0 = x := by rw [← hx]; exact get_at s 0 h0
  have hz : (x.toNat : Int) < 128 := by omega
  have hxl : x.toNat < 256 := x.toNat_lt
  clear hx
  go_enter Tryd.func32, Tryd.ntmps32
  go_wp2
  go_ret2
  exact twoN (by simp) (by simp)
set_option maxRecDepth 100000 in
theorem scalar_none (s : ByteArray) (w : World) (h0 : 0 < s.size) (_hs : s.size ≤ 1099511627776) (x : UInt8) (hx : s.get! 0 = x) (h : (128 ≤ x.toNat ∧ x.toNat < 192) ∨ 248 ≤ x.toNat) :
    Calls Tryd.prog 32 #[.string s] w (TwoN (0, 0) w) := by
  have hs0 : s[0]'h0 = x := by rw [← hx]; exact get_at s 0 h0
  have hxl : x.toNat < 256 := x.toNat_lt
  clear hx
  rcases h with ⟨ha, hb⟩ | ha
  · have hz1 : ¬ (x.toNat : Int) < 128 := by omega
    have hz2 : ¬ (192 : Int) ≤ (x.toNat : Int) := by omega
    have hz3 : ¬ (224 : Int) ≤ (x.toNat : Int) := by omega
    have hz4 : ¬ (240 : Int) ≤ (x.toNat : Int) := by omega
    go_enter Tryd.func32, Tryd.ntmps32
    go_wp2
    go_ret2
    exact twoN rfl rfl
  · have hz1 : ¬ (x.toNat : Int) < 128 := by omega
    have hz2 : (192 : Int) ≤ (x.toNat : Int) := by omega
    have hz3 : (224 : Int) ≤ (x.toNat : Int) := by omega
    have hz4 : (240 : Int) ≤ (x.toNat : Int) := by omega
    have hz5 : ¬ (x.toNat : Int) < 248 := by omega
    go_enter Tryd.func32, Tryd.ntmps32
    go_wp2
    go_ret2
    exact twoN rfl rfl

set_option maxRecDepth 100000 in
set_option maxHeartbeats 2000000 in
theorem scalar_2 (s : ByteArray) (w : World) (h0 : 0 < s.size) (hs : s.size ≤ 1099511627776) (x : UInt8) (hx : s.get! 0 = x) (ha : 192 ≤ x.toNat) (hb : x.toNat < 224) :
    Calls Tryd.prog 32 #[.string s] w (TwoN (refC s 2 128 (x.toNat - 192)) w) := by
  have hs0 : s[0]'h0 = x := by rw [← hx]; exact get_at s 0 h0
  have hxl : x.toNat < 256 := x.toNat_lt
  have hz0 : ¬ (x.toNat : Int) < 128 := by omega
  have hz1 : (192 : Int) ≤ (x.toNat : Int) := by omega
  have hz2 : (x.toNat : Int) < 224 := by omega
  clear hx
  unfold refC
  by_cases hn : s.size < 2
  · rw [if_pos hn]
    have hnz : (s.size : Int) < 2 := by omega
    go_enter Tryd.func32, Tryd.ntmps32
    go_wp2
    go_ret2
    exact twoN rfl rfl
  · rw [if_neg hn]
    have hnz : ¬ (s.size : Int) < 2 := by omega
    obtain ⟨R, hR⟩ : ∃ R, contF s 2 (2 - 1) 1 (x.toNat - 192) = R := ⟨_, rfl⟩
    rw [hR]
    have HR := Lib.hid hR; clear hR
    obtain ⟨y, hy⟩ : ∃ y : Nat, x.toNat = y + 192 := ⟨x.toNat - 192, by omega⟩
    have hyz : ((x.toNat : Int) - 192) = (y : Int) := by omega
    have HY : Hid (x.toNat = y + 192) := Lib.hid hy
    clear hy
    go_enter Tryd.func32, Tryd.ntmps32
    go_wp2
    go_loop [4, 7] (fun cv iv => ∃ (c i : Nat), cv = .int .i64 c ∧ iv = .int .i64 i ∧ Hid (contF s 2 (2 - i) i c = R) ∧ ((i = 1 ∧ c < 32) ∨ (i = 2 ∧ c < 8388608))) (fun _ iv => 2 - (intOf iv).toNat)
    case atStart =>
      have hy := HY.out
      refine ⟨y, 1, rfl, rfl, Lib.hid ?_, by omega⟩
      rw [← HR.out]; congr 1; omega
    case round =>
      obtain ⟨c, i, rfl, rfl, HC, hrng⟩ := hrel
      clear hyz HY HR hs0
      by_cases hin : i < 2
      · obtain ⟨v, hv⟩ : ∃ v, s.get! i = v := ⟨_, rfl⟩
        have hi2 : i < s.size := by omega
        have hsi : s[i]'hi2 = v := by rw [← hv]; exact get_at s i hi2
        have hvl : v.toNat < 256 := v.toNat_lt
        have hbad := contF_bad s 2 (2 - i - 1) i c hin
        have hon := contF_on s 2 (2 - i - 1) i c hin
        rw [hv, show 2 - i - 1 + 1 = 2 - i by omega] at hbad hon
        have HB := Lib.hid hbad
        have HO := Lib.hid hon
        clear hbad hon hv
        by_cases q1 : v.toNat < 128
        · have q1z : (v.toNat : Int) < 128 := by omega
          have hRn : Hid (R = none) := Lib.hid (HC.out.symm.trans (HB.out (.inl q1)))
          go_wp2
          go_ret2
          rw [hRn.out]
          exact twoN rfl rfl
        · have q1z : ¬ (v.toNat : Int) < 128 := by omega
          by_cases q2 : 192 ≤ v.toNat
          · have q2z : (192 : Int) ≤ (v.toNat : Int) := by omega
            have hRn : Hid (R = none) := Lib.hid (HC.out.symm.trans (HB.out (.inr q2)))
            go_wp2
            go_ret2
            rw [hRn.out]
            exact twoN rfl rfl
          · have q2z : ¬ (192 : Int) ≤ (v.toNat : Int) := by omega
            have hcn : Hid (contF s 2 (2 - (i + 1)) (i + 1) (64 * c + v.toNat - 128) = R) := Lib.hid (by rw [← HC.out, HO.out (by omega)]; congr 1)
            go_wp2
            go_round
            case rel => exact ⟨64 * c + v.toNat - 128, i + 1, by go_num, by go_num, hcn, by omega⟩
            case measure => simp [intOf]; omega
      · have hfin := contF_done s 2 (2 - i) i c hin
        have hRn : Hid (R = some c) := Lib.hid (HC.out.symm.trans hfin)
        clear hfin HC
        have hc8 : c < 8388608 := by omega
        clear hrng
        by_cases p1 : c < 128
        · have p1z : (c : Int) < 128 := by omega
          go_wp2
          go_ret2
          have hans := refFin_bad 128 2 c (.inl p1)
          rw [← hRn.out] at hans
          rw [hans]
          exact twoN rfl rfl
        · have p1z : ¬ (c : Int) < 128 := by omega
          by_cases p2 : 1114111 < c
          · have p2z : (1114111 : Int) < (c : Int) := by omega
            go_wp2
            go_ret2
            have hans := refFin_bad 128 2 c (.inr (.inl p2))
            rw [← hRn.out] at hans
            rw [hans]
            exact twoN rfl rfl
          · have p2z : ¬ (1114111 : Int) < (c : Int) := by omega
            by_cases p3 : 55296 ≤ c
            · have p3z : (55296 : Int) ≤ (c : Int) := by omega
              by_cases p4 : c ≤ 57343
              · have p4z : (c : Int) ≤ 57343 := by omega
                first
                  | (exfalso; omega)
                  | (go_wp2
                     go_ret2
                     have hans := refFin_bad 128 2 c (.inr (.inr ⟨p3, p4⟩))
                     rw [← hRn.out] at hans
                     rw [hans]
                     exact twoN rfl rfl)
              · have p4z : ¬ (c : Int) ≤ 57343 := by omega
                go_wp2
                go_ret2
                have hans := refFin_ok 128 2 c p1 p2 (by omega)
                rw [← hRn.out] at hans
                rw [hans]
                exact twoN rfl rfl
            · have p3z : ¬ (55296 : Int) ≤ (c : Int) := by omega
              first
                | (exfalso; omega)
                | (go_wp2
                   go_ret2
                   have hans := refFin_ok 128 2 c p1 p2 (by omega)
                   rw [← hRn.out] at hans
                   rw [hans]
                   exact twoN rfl rfl)
end Go.Proofs.YtapjomdplibanaaDoor.U

namespace Go.Proofs.YtapjomdplibanaaDoor.U
open Go.RowKit
open Go.Lib hiding intOf

set_option maxRecDepth 100000 in
set_option maxHeartbeats 2000000 in
theorem scalar_3 (s : ByteArray) (w : World) (h0 : 0 < s.size) (hs : s.size ≤ 1099511627776) (x : UInt8) (hx : s.get! 0 = x) (ha : 224 ≤ x.toNat) (hb : x.toNat < 240) :
    Calls Tryd.prog 32 #[.string s] w (TwoN (refC s 3 2048 (x.toNat - 224)) w) := by
  have hs0 : s[0]'h0 = x := by rw [← hx]; exact get_at s 0 h0
  have hxl : x.toNat < 256 := x.toNat_lt
  have hz0 : ¬ (x.toNat : Int) < 128 := by omega
  have hz1 : (192 : Int) ≤ (x.toNat : Int) := by omega
  have hz2 : ¬ (x.toNat : Int) < 224 := by omega
  have hz3 : (224 : Int) ≤ (x.toNat : Int) := by omega
  have hz4 : (x.toNat : Int) < 240 := by omega
  clear hx
  unfold refC
  by_cases hn : s.size < 3
  · rw [if_pos hn]
    have hnz : (s.size : Int) < 3 := by omega
    go_enter Tryd.func32, Tryd.ntmps32
    go_wp2
    go_ret2
    exact twoN rfl rfl
  · rw [if_neg hn]
    have hnz : ¬ (s.size : Int) < 3 := by omega
    obtain ⟨R, hR⟩ : ∃ R, contF s 3 (3 - 1) 1 (x.toNat - 224) = R := ⟨_, rfl⟩
    rw [hR]
    have HR := Lib.hid hR; clear hR
    obtain ⟨y, hy⟩ : ∃ y : Nat, x.toNat = y + 224 := ⟨x.toNat - 224, by omega⟩
    have hyz : ((x.toNat : Int) - 224) = (y : Int) := by omega
    have HY : Hid (x.toNat = y + 224) := Lib.hid hy
    clear hy
    go_enter Tryd.func32, Tryd.ntmps32
    go_wp2
    generalize hL : (2048 : Int) = l
    have HL : Hid (l = 2048) := Lib.hid hL.symm
    clear hL
    go_loop [4, 7] (fun cv iv => ∃ (c i : Nat), cv = .int .i64 c ∧ iv = .int .i64 i ∧ Hid (contF s 3 (3 - i) i c = R) ∧ ((i = 1 ∧ c < 16) ∨ (i = 2 ∧ c < 2048) ∨ (i = 3 ∧ c < 8388608))) (fun _ iv => 3 - (intOf iv).toNat)
    case atStart =>
      have hy := HY.out
      refine ⟨y, 1, rfl, rfl, Lib.hid ?_, by omega⟩
      rw [← HR.out]; congr 1; omega
    case round =>
      obtain ⟨c, i, rfl, rfl, HC, hrng⟩ := hrel
      clear hyz HY HR hs0
      by_cases hin : i < 3
      · obtain ⟨v, hv⟩ : ∃ v, s.get! i = v := ⟨_, rfl⟩
        have hi2 : i < s.size := by omega
        have hsi : s[i]'hi2 = v := by rw [← hv]; exact get_at s i hi2
        have hvl : v.toNat < 256 := v.toNat_lt
        have hbad := contF_bad s 3 (3 - i - 1) i c hin
        have hon := contF_on s 3 (3 - i - 1) i c hin
        rw [hv, show 3 - i - 1 + 1 = 3 - i by omega] at hbad hon
        have HB := Lib.hid hbad
        have HO := Lib.hid hon
        clear hbad hon hv
        by_cases q1 : v.toNat < 128
        · have q1z : (v.toNat : Int) < 128 := by omega
          have hRn : Hid (R = none) := Lib.hid (HC.out.symm.trans (HB.out (.inl q1)))
          go_wp2
          go_ret2
          rw [hRn.out]
          exact twoN rfl rfl
        · have q1z : ¬ (v.toNat : Int) < 128 := by omega
          by_cases q2 : 192 ≤ v.toNat
          · have q2z : (192 : Int) ≤ (v.toNat : Int) := by omega
            have hRn : Hid (R = none) := Lib.hid (HC.out.symm.trans (HB.out (.inr q2)))
            go_wp2
            go_ret2
            rw [hRn.out]
            exact twoN rfl rfl
          · have q2z : ¬ (192 : Int) ≤ (v.toNat : Int) := by omega
            have hcn : Hid (contF s 3 (3 - (i + 1)) (i + 1) (64 * c + v.toNat - 128) = R) := Lib.hid (by rw [← HC.out, HO.out (by omega)]; congr 1)
            go_wp2
            go_round
            case rel => exact ⟨64 * c + v.toNat - 128, i + 1, by go_num, by go_num, hcn, by omega⟩
            case measure => simp [intOf]; omega
      · have hfin := contF_done s 3 (3 - i) i c hin
        have hRn : Hid (R = some c) := Lib.hid (HC.out.symm.trans hfin)
        clear hfin HC
        have hc8 : c < 8388608 := by omega
        clear hrng
        by_cases p1 : c < 2048
        · have p1z : (c : Int) < l := by rw [HL.out]; omega
          go_wp2
          go_ret2
          have hans := refFin_bad 2048 3 c (.inl p1)
          rw [← hRn.out] at hans
          rw [hans]
          exact twoN rfl rfl
        · have p1z : ¬ (c : Int) < l := by rw [HL.out]; omega
          by_cases p2 : 1114111 < c
          · have p2z : (1114111 : Int) < (c : Int) := by omega
            go_wp2
            go_ret2
            have hans := refFin_bad 2048 3 c (.inr (.inl p2))
            rw [← hRn.out] at hans
            rw [hans]
            exact twoN rfl rfl
          · have p2z : ¬ (1114111 : Int) < (c : Int) := by omega
            by_cases p3 : 55296 ≤ c
            · have p3z : (55296 : Int) ≤ (c : Int) := by omega
              by_cases p4 : c ≤ 57343
              · have p4z : (c : Int) ≤ 57343 := by omega
                first
                  | (exfalso; omega)
                  | (go_wp2
                     go_ret2
                     have hans := refFin_bad 2048 3 c (.inr (.inr ⟨p3, p4⟩))
                     rw [← hRn.out] at hans
                     rw [hans]
                     exact twoN rfl rfl)
              · have p4z : ¬ (c : Int) ≤ 57343 := by omega
                go_wp2
                go_ret2
                have hans := refFin_ok 2048 3 c p1 p2 (by omega)
                rw [← hRn.out] at hans
                rw [hans]
                exact twoN rfl rfl
            · have p3z : ¬ (55296 : Int) ≤ (c : Int) := by omega
              first
                | (exfalso; omega)
                | (go_wp2
                   go_ret2
                   have hans := refFin_ok 2048 3 c p1 p2 (by omega)
                   rw [← hRn.out] at hans
                   rw [hans]
                   exact twoN rfl rfl)
end Go.Proofs.YtapjomdplibanaaDoor.U

namespace Go.Proofs.YtapjomdplibanaaDoor.U
open Go.RowKit
open Go.Lib hiding intOf

set_option maxRecDepth 100000 in
set_option maxHeartbeats 2000000 in
theorem scalar_4 (s : ByteArray) (w : World) (h0 : 0 < s.size) (hs : s.size ≤ 1099511627776) (x : UInt8) (hx : s.get! 0 = x) (ha : 240 ≤ x.toNat) (hb : x.toNat < 248) :
    Calls Tryd.prog 32 #[.string s] w (TwoN (refC s 4 65536 (x.toNat - 240)) w) := by
  have hs0 : s[0]'h0 = x := by rw [← hx]; exact get_at s 0 h0
  have hxl : x.toNat < 256 := x.toNat_lt
  have hz0 : ¬ (x.toNat : Int) < 128 := by omega
  have hz1 : (192 : Int) ≤ (x.toNat : Int) := by omega
  have hz2 : ¬ (x.toNat : Int) < 224 := by omega
  have hz3 : (224 : Int) ≤ (x.toNat : Int) := by omega
  have hz4 : ¬ (x.toNat : Int) < 240 := by omega
  have hz5 : (240 : Int) ≤ (x.toNat : Int) := by omega
  have hz6 : (x.toNat : Int) < 248 := by omega
  clear hx
  unfold refC
  by_cases hn : s.size < 4
  · rw [if_pos hn]
    have hnz : (s.size : Int) < 4 := by omega
    go_enter Tryd.func32, Tryd.ntmps32
    go_wp2
    go_ret2
    exact twoN rfl rfl
  · rw [if_neg hn]
    have hnz : ¬ (s.size : Int) < 4 := by omega
    obtain ⟨R, hR⟩ : ∃ R, contF s 4 (4 - 1) 1 (x.toNat - 240) = R := ⟨_, rfl⟩
    rw [hR]
    have HR := Lib.hid hR; clear hR
    obtain ⟨y, hy⟩ : ∃ y : Nat, x.toNat = y + 240 := ⟨x.toNat - 240, by omega⟩
    have hyz : ((x.toNat : Int) - 240) = (y : Int) := by omega
    have HY : Hid (x.toNat = y + 240) := Lib.hid hy
    clear hy
    go_enter Tryd.func32, Tryd.ntmps32
    go_wp2
    generalize hL : (65536 : Int) = l
    have HL : Hid (l = 65536) := Lib.hid hL.symm
    clear hL
    go_loop [4, 7] (fun cv iv => ∃ (c i : Nat), cv = .int .i64 c ∧ iv = .int .i64 i ∧ Hid (contF s 4 (4 - i) i c = R) ∧ ((i = 1 ∧ c < 8) ∨ (i = 2 ∧ c < 1024) ∨ (i = 3 ∧ c < 131072) ∨ (i = 4 ∧ c < 8388608))) (fun _ iv => 4 - (intOf iv).toNat)
    case atStart =>
      have hy := HY.out
      refine ⟨y, 1, rfl, rfl, Lib.hid ?_, by omega⟩
      rw [← HR.out]; congr 1; omega
    case round =>
      obtain ⟨c, i, rfl, rfl, HC, hrng⟩ := hrel
      clear hyz HY HR hs0
      by_cases hin : i < 4
      · obtain ⟨v, hv⟩ : ∃ v, s.get! i = v := ⟨_, rfl⟩
        have hi2 : i < s.size := by omega
        have hsi : s[i]'hi2 = v := by rw [← hv]; exact get_at s i hi2
        have hvl : v.toNat < 256 := v.toNat_lt
        have hbad := contF_bad s 4 (4 - i - 1) i c hin
        have hon := contF_on s 4 (4 - i - 1) i c hin
        rw [hv, show 4 - i - 1 + 1 = 4 - i by omega] at hbad hon
        have HB := Lib.hid hbad
        have HO := Lib.hid hon
        clear hbad hon hv
        by_cases q1 : v.toNat < 128
        · have q1z : (v.toNat : Int) < 128 := by omega
          have hRn : Hid (R = none) := Lib.hid (HC.out.symm.trans (HB.out (.inl q1)))
          go_wp2
          go_ret2
          rw [hRn.out]
          exact twoN rfl rfl
        · have q1z : ¬ (v.toNat : Int) < 128 := by omega
          by_cases q2 : 192 ≤ v.toNat
          · have q2z : (192 : Int) ≤ (v.toNat : Int) := by omega
            have hRn : Hid (R = none) := Lib.hid (HC.out.symm.trans (HB.out (.inr q2)))
            go_wp2
            go_ret2
            rw [hRn.out]
            exact twoN rfl rfl
          · have q2z : ¬ (192 : Int) ≤ (v.toNat : Int) := by omega
            have hcn : Hid (contF s 4 (4 - (i + 1)) (i + 1) (64 * c + v.toNat - 128) = R) := Lib.hid (by rw [← HC.out, HO.out (by omega)]; congr 1)
            go_wp2
            go_round
            case rel => exact ⟨64 * c + v.toNat - 128, i + 1, by go_num, by go_num, hcn, by omega⟩
            case measure => simp [intOf]; omega
      · have hfin := contF_done s 4 (4 - i) i c hin
        have hRn : Hid (R = some c) := Lib.hid (HC.out.symm.trans hfin)
        clear hfin HC
        have hc8 : c < 8388608 := by omega
        clear hrng
        by_cases p1 : c < 65536
        · have p1z : (c : Int) < l := by rw [HL.out]; omega
          go_wp2
          go_ret2
          have hans := refFin_bad 65536 4 c (.inl p1)
          rw [← hRn.out] at hans
          rw [hans]
          exact twoN rfl rfl
        · have p1z : ¬ (c : Int) < l := by rw [HL.out]; omega
          by_cases p2 : 1114111 < c
          · have p2z : (1114111 : Int) < (c : Int) := by omega
            go_wp2
            go_ret2
            have hans := refFin_bad 65536 4 c (.inr (.inl p2))
            rw [← hRn.out] at hans
            rw [hans]
            exact twoN rfl rfl
          · have p2z : ¬ (1114111 : Int) < (c : Int) := by omega
            by_cases p3 : 55296 ≤ c
            · have p3z : (55296 : Int) ≤ (c : Int) := by omega
              by_cases p4 : c ≤ 57343
              · have p4z : (c : Int) ≤ 57343 := by omega
                first
                  | (exfalso; omega)
                  | (go_wp2
                     go_ret2
                     have hans := refFin_bad 65536 4 c (.inr (.inr ⟨p3, p4⟩))
                     rw [← hRn.out] at hans
                     rw [hans]
                     exact twoN rfl rfl)
              · have p4z : ¬ (c : Int) ≤ 57343 := by omega
                go_wp2
                go_ret2
                have hans := refFin_ok 65536 4 c p1 p2 (by omega)
                rw [← hRn.out] at hans
                rw [hans]
                exact twoN rfl rfl
            · have p3z : ¬ (55296 : Int) ≤ (c : Int) := by omega
              first
                | (exfalso; omega)
                | (go_wp2
                   go_ret2
                   have hans := refFin_ok 65536 4 c p1 p2 (by omega)
                   rw [← hRn.out] at hans
                   rw [hans]
                   exact twoN rfl rfl)
end Go.Proofs.YtapjomdplibanaaDoor.U

namespace Go.Proofs.YtapjomdplibanaaDoor.U
open Go.RowKit
open Go.Lib hiding intOf

theorem scalar_any (s : ByteArray) (w : World) (h0 : 0 < s.size) (hs : s.size ≤ 1099511627776) :
    Calls Tryd.prog 32 #[.string s] w (TwoN (scal s) w) := by
  obtain ⟨x, hx⟩ : ∃ x, s.get! 0 = x := ⟨_, rfl⟩
  have r1 := ref1 s
  have r0 := ref0 s
  have r2 := ref2 s
  have r3 := ref3 s
  have r4 := ref4 s
  rw [hx] at r1 r0 r2 r3 r4
  by_cases q1 : x.toNat < 128
  · rw [r1 q1]; exact scalar_one s w h0 hs x hx q1
  · by_cases q2 : 192 ≤ x.toNat ∧ x.toNat < 224
    · rw [r2 q2.1 q2.2]; exact scalar_2 s w h0 hs x hx q2.1 q2.2
    · by_cases q3 : 224 ≤ x.toNat ∧ x.toNat < 240
      · rw [r3 q3.1 q3.2]; exact scalar_3 s w h0 hs x hx q3.1 q3.2
      · by_cases q4 : 240 ≤ x.toNat ∧ x.toNat < 248
        · rw [r4 q4.1 q4.2]; exact scalar_4 s w h0 hs x hx q4.1 q4.2
        · rw [r0 q1 q2 q3 q4]; exact scalar_none s w h0 hs x hx (by omega)
end Go.Proofs.YtapjomdplibanaaDoor.U

namespace Go.Proofs.YtapjomdplibanaaDoor.U
open Go.Lib

def posL : List (Nat × Nat) → Nat → List Nat
  | [], p => [p]
  | x :: t, p => p :: posL t (p + x.2)
def unL : List (Nat × Nat) → Nat → List Nat
  | [], a => [a]
  | x :: t, a => a :: unL t (a + uw x.1)
theorem posL_length : ∀ (l : List (Nat × Nat)) (p : Nat), (posL l p).length = l.length + 1
  | [], _ => rfl
  | x :: t, p => by simp only [posL, List.length_cons, posL_length t]
theorem unL_length : ∀ (l : List (Nat × Nat)) (a : Nat), (unL l a).length = l.length + 1
  | [], _ => rfl
  | x :: t, a => by simp only [unL, List.length_cons, unL_length t]
theorem posL_snoc : ∀ (l : List (Nat × Nat)) (p : Nat) (y : Nat × Nat), posL (l ++ [y]) p = posL l p ++ [p + sumW l + y.2]
  | [], p, y => by simp [posL, sumW]
  | x :: t, p, y => by
    simp only [List.cons_append, posL, sumW, posL_snoc t]
    rw [Nat.add_assoc p x.2 (sumW t)]
theorem unL_snoc : ∀ (l : List (Nat × Nat)) (a : Nat) (y : Nat × Nat), unL (l ++ [y]) a = unL l a ++ [a + sumU l + uw y.1]
  | [], a, y => by simp [unL, sumU]
  | x :: t, a, y => by
    simp only [List.cons_append, unL, sumU, unL_snoc t]
    rw [Nat.add_assoc a (uw x.1) (sumU t)]
theorem unL_last : ∀ (l : List (Nat × Nat)) (a : Nat), (unL l a).getD l.length 0 = a + sumU l
  | [], a => by simp [unL, sumU]
  | x :: t, a => by
    simp only [unL, sumU, List.length_cons, List.getD_cons_succ, unL_last t]
    omega
theorem length_le : ∀ l : List (Nat × Nat), Wide l → l.length ≤ sumW l
  | [], _ => Nat.le_refl _
  | x :: t, h => by
    have h1 := h x (by simp)
    have h2 := length_le t (fun y hy => h y (by simp [hy]))
    simp only [List.length_cons, sumW]; omega

/-- Where a number stands in a list; -1: nowhere. -/
def fnd : List Nat → Int → Nat → Int
  | [], _, _ => -1
  | a :: t, x, i => if (a : Int) = x then i else fnd t x (i + 1)
theorem fnd_range : ∀ (l : List Nat) (x : Int) (i : Nat), fnd l x i = -1 ∨ ((i : Int) ≤ fnd l x i ∧ fnd l x i < ((i + l.length : Nat) : Int))
  | [], _, _ => .inl rfl
  | a :: t, x, i => by
    simp only [fnd]
    split
    · exact .inr ⟨Int.le_refl _, by simp only [List.length_cons]; omega⟩
    · rcases fnd_range t x (i + 1) with h | h
      · exact .inl h
      · exact .inr ⟨by omega, by simp only [List.length_cons]; omega⟩
theorem off_fnd : ∀ (l : List (Nat × Nat)) (pos ahead i : Nat) (unit : Int),
    (fnd (unL l ahead) unit i = -1 ∧ off l pos ahead unit = (0, 12)) ∨ (∃ k : Nat, fnd (unL l ahead) unit i = ((i + k : Nat) : Int) ∧ off l pos ahead unit = ((((posL l pos).getD k 0 : Nat) : Int), 0))
  | [], pos, ahead, i, unit => by
    simp only [unL, fnd, off, posL]
    by_cases h : (ahead : Int) = unit
    · rw [if_pos h, if_pos h]; exact .inr ⟨0, rfl, rfl⟩
    · rw [if_neg h, if_neg h]; exact .inl ⟨rfl, rfl⟩
  | x :: t, pos, ahead, i, unit => by
    simp only [unL, fnd, off, posL]
    by_cases h : (ahead : Int) = unit
    · rw [if_pos h, if_pos h]; exact .inr ⟨0, rfl, rfl⟩
    · rw [if_neg h, if_neg h]
      rcases off_fnd t (pos + x.2) (ahead + uw x.1) (i + 1) unit with h1 | ⟨k, h1, h2⟩
      · exact .inl h1
      · exact .inr ⟨k + 1, by rw [h1]; omega, by rw [h2, List.getD_cons_succ]⟩
theorem uni_fnd : ∀ (l : List (Nat × Nat)) (pos ahead i : Nat) (a : Int),
    (fnd (posL l pos) a i = -1 ∧ uni l pos ahead a = (0, 12)) ∨ (∃ k : Nat, fnd (posL l pos) a i = ((i + k : Nat) : Int) ∧ uni l pos ahead a = ((((unL l ahead).getD k 0 : Nat) : Int), 0))
  | [], pos, ahead, i, a => by
    simp only [unL, fnd, uni, posL]
    by_cases h : (pos : Int) = a
    · rw [if_pos h, if_pos h]; exact .inr ⟨0, rfl, rfl⟩
    · rw [if_neg h, if_neg h]; exact .inl ⟨rfl, rfl⟩
  | x :: t, pos, ahead, i, a => by
    simp only [unL, fnd, uni, posL]
    by_cases h : (pos : Int) = a
    · rw [if_pos h, if_pos h]; exact .inr ⟨0, rfl, rfl⟩
    · rw [if_neg h, if_neg h]
      rcases uni_fnd t (pos + x.2) (ahead + uw x.1) (i + 1) a with h1 | ⟨k, h1, h2⟩
      · exact .inl h1
      · exact .inr ⟨k + 1, by rw [h1]; omega, by rw [h2, List.getD_cons_succ]⟩
/-- The last of the places that are not beyond. -/
def foldE : List Nat → Int → Nat → Nat
  | [], _, e => e
  | b :: t, most, e => foldE t most (if (b : Int) ≤ most then b else e)
theorem foldE_low : ∀ (l : List (Nat × Nat)) (pos e : Nat) (most : Int), Wide l → most < (pos : Int) → foldE (posL l pos) most e = e
  | [], pos, e, most, _, h => by simp only [posL, foldE]; rw [if_neg (by omega)]
  | x :: t, pos, e, most, hw, h => by
    simp only [posL, foldE]; rw [if_neg (by omega)]
    exact foldE_low t _ e most (fun y hy => hw y (by simp [hy])) (by omega)
theorem foldE_cut : ∀ (l : List (Nat × Nat)) (pos e : Nat) (most : Int), Wide l → foldE (posL l pos) most e = if ((pos + sumW l : Nat) : Int) ≤ most then pos + sumW l else cutE l pos most e
  | [], pos, e, most, _ => by
    simp only [posL, foldE, sumW, cutE, Nat.add_zero]
    rfl
  | x :: t, pos, e, most, hw => by
    have hx := hw x (by simp)
    have hwt : Wide t := fun y hy => hw y (by simp [hy])
    by_cases h : most < (pos : Int)
    · rw [foldE_low (x :: t) pos e most hw h, if_neg (by omega)]
      simp only [cutE]; rw [if_pos h]
    · simp only [posL, foldE, sumW, cutE]
      rw [if_pos (by omega), if_neg h, foldE_cut t _ pos most hwt]
      have e1 : pos + x.2 + sumW t = pos + (x.2 + sumW t) := by omega
      rw [e1]
      rfl
theorem cutB_fold (s : ByteArray) (most : Int) (hok : okB s = true) : cutB s most = s.extract 0 (foldE (posL (items s) 0) most 0) := by
  unfold cutB
  rw [if_pos hok, foldE_cut (items s) 0 0 most (itemsF_wide s _ _), sumW_items, Nat.zero_add]
  by_cases h : (s.size : Int) ≤ most
  · rw [if_pos h, if_pos h]; simp
  · rw [if_neg h, if_neg h]

/-- The lists within bounds. -/
theorem posL_le : ∀ (l : List (Nat × Nat)) (p : Nat), ∀ x ∈ posL l p, x ≤ p + sumW l
  | [], p, x, h => by simp only [posL, List.mem_singleton] at h; subst h; simp [sumW]
  | y :: t, p, x, h => by
    simp only [posL, List.mem_cons] at h
    simp only [sumW]
    rcases h with rfl | h
    · omega
    · have := posL_le t _ x h; omega
theorem unL_le : ∀ (l : List (Nat × Nat)) (p : Nat), ∀ x ∈ unL l p, x ≤ p + sumU l
  | [], p, x, h => by simp only [unL, List.mem_singleton] at h; subst h; simp [sumU]
  | y :: t, p, x, h => by
    simp only [unL, List.mem_cons] at h
    simp only [sumU]
    rcases h with rfl | h
    · omega
    · have := unL_le t _ x h; omega
theorem getD_le (l : List Nat) (k B : Nat) (h : ∀ x ∈ l, x ≤ B) : l.getD k 0 ≤ B := by
  rw [List.getD_eq_getElem?_getD]
  by_cases hk : k < l.length
  · rw [List.getElem?_eq_getElem hk, Option.getD_some]; exact h _ (List.getElem_mem hk)
  · rw [List.getElem?_eq_none (by omega), Option.getD_none]; omega

/-- The first scalar of what is left of a text. -/
theorem scal_at (s : ByteArray) (pos : Nat) : scal (s.extract pos s.size) = if (Utf8.decode s pos).1 = 65533 ∧ (Utf8.decode s pos).2 = 1 then (0, 0) else Utf8.decode s pos := by
  have h := tail_decode s pos 0
  rw [Nat.add_zero] at h
  unfold scal
  rw [h]
theorem okL_bad (s : ByteArray) (f pos : Nat) (h : pos < s.size) (hb : (Utf8.decode s pos).1 = 65533 ∧ (Utf8.decode s pos).2 = 1) : okL (itemsF s (f + 1) pos) = false := by
  rw [itemsF_step s f pos h]; simp only [okL]; rw [if_pos hb]
theorem okL_on (s : ByteArray) (f pos : Nat) (h : pos < s.size) (hb : ¬ ((Utf8.decode s pos).1 = 65533 ∧ (Utf8.decode s pos).2 = 1)) : okL (itemsF s (f + 1) pos) = okL (itemsF s f (pos + (Utf8.decode s pos).2)) := by
  rw [itemsF_step s f pos h]; simp only [okL]; rw [if_neg hb]
theorem okL_done (s : ByteArray) (f pos : Nat) (h : ¬ pos < s.size) : okL (itemsF s f pos) = true := by rw [itemsF_end s f pos h]; rfl
/-- What has been gone through, and what is left. -/
def Split (s : ByteArray) (l : List (Nat × Nat)) (f pos : Nat) : Prop := items s = l ++ itemsF s f pos ∧ sumW l = pos ∧ s.size - pos ≤ f ∧ pos ≤ s.size
theorem split_zero (s : ByteArray) : Split s [] s.size 0 := ⟨rfl, rfl, by omega, by omega⟩
theorem split_step {s : ByteArray} {l : List (Nat × Nat)} {f pos : Nat} (h : Split s l (f + 1) pos) (hp : pos < s.size) : Split s (l ++ [Utf8.decode s pos]) f (pos + (Utf8.decode s pos).2) := by
  obtain ⟨h1, h2, h3, h4⟩ := h
  have hw := width_pos s pos hp
  refine ⟨?_, ?_, by omega, width_le s pos hp⟩
  · rw [h1, itemsF_step s f pos hp]; simp
  · rw [sumW_append, h2]; rfl
theorem split_done {s : ByteArray} {l : List (Nat × Nat)} {f pos : Nat} (h : Split s l f pos) (hp : ¬ pos < s.size) : l = items s := by
  obtain ⟨h1, h2, h3, h4⟩ := h
  rw [h1, itemsF_end s f pos hp, List.append_nil]
end Go.Proofs.YtapjomdplibanaaDoor.U

namespace Go.Proofs.YtapjomdplibanaaDoor.U
open Go.RowKit
open Go.Lib hiding intOf

def I (n : Nat) : Value := .int .i64 n
def Row (w : World) (g : Nat) (l : List Nat) : Prop := ∀ i, i < l.length → w.cell? ⟨g, i, none⟩ = some (.int .i64 (l.getD i 0 : Nat))
def PlacesPost (s : ByteArray) (w : World) (e : Ending) (w' : World) : Prop :=
  if okB s = true then ∃ g1 c1 g2 c2, e = .returned (.tuple #[.slice (some ⟨g1, 0, none⟩) ((items s).length + 1) c1, .slice (some ⟨g2, 0, none⟩) ((items s).length + 1) c2, .bool true]) ∧
    Row w' g1 (posL (items s) 0) ∧ Row w' g2 (unL (items s) 0) ∧ Below w.heap.size w w' ∧ g1 < w'.heap.size ∧ g2 < w'.heap.size
  else e = .returned (.tuple #[.slice none 0 0, .slice none 0 0, .bool false]) ∧ Below w.heap.size w w'

theorem row_of_owns {w : World} {B g c n : Nat} {l : List Nat} (h : w.ownsRow B 3 1 (.slice (some ⟨g, 0, none⟩) n c) n (l.map I)) : Row w g l ∧ g < w.heap.size := by
  have hl : l.length = n := by have := h.1; simpa using this
  refine ⟨fun i hi => ?_, (h.lt g rfl).2⟩
  rw [h.cellAt i (by omega), List.getElem?_map, List.getElem?_eq_getElem hi]
  simp [I, hi]
theorem shape {w : World} {B n : Nat} {v : Value} {xs : List Value} (h : w.ownsRow B 3 1 v (n + 1) xs) : ∃ g c, v = .slice (some ⟨g, 0, none⟩) (n + 1) c := by
  rcases h.2 with ⟨_, h0⟩ | ⟨g, cap, cur, hv, _⟩
  · omega
  · exact ⟨g, cap, hv⟩
theorem places_fin {s : ByteArray} {w w' : World} {l : List (Nat × Nat)} {g1 c1 g2 c2 B : Nat} (hok : okB s = true) (hl : l = items s)
    (h1 : w'.ownsRow B 3 1 (.slice (some ⟨g1, 0, none⟩) (l.length + 1) c1) (l.length + 1) ((posL l 0).map I)) (h2 : w'.ownsRow B 3 1 (.slice (some ⟨g2, 0, none⟩) (l.length + 1) c2) (l.length + 1) ((unL l 0).map I))
    (hb : Below w.heap.size w w') : PlacesPost s w (.returned (.tuple #[.slice (some ⟨g1, 0, none⟩) (l.length + 1) c1, .slice (some ⟨g2, 0, none⟩) (l.length + 1) c2, .bool true])) w' := by
  subst hl
  unfold PlacesPost
  rw [if_pos hok]
  obtain ⟨r1, s1⟩ := row_of_owns h1
  obtain ⟨r2, s2⟩ := row_of_owns h2
  exact ⟨g1, c1, g2, c2, rfl, r1, r2, hb, s1, s2⟩
theorem places_bad {s : ByteArray} {w w' : World} (hok : okB s = false) (hb : Below w.heap.size w w') : PlacesPost s w (.returned (.tuple #[.slice none 0 0, .slice none 0 0, .bool false])) w' := by
  unfold PlacesPost
  rw [if_neg (by rw [hok]; simp)]
  exact ⟨rfl, hb⟩
theorem scalar_is (s : ByteArray) (w : World) (a b : Nat) (h0 : 0 < s.size) (hs : s.size ≤ 1099511627776) (h : scal s = (a, b)) :
    Calls Tryd.prog 32 #[.string s] w fun e w' => e = .returned (.tuple #[.int .i64 a, .int .i64 b]) ∧ w = w' :=
  (scalar_any s w h0 hs).mono fun e w' ⟨he, hw⟩ => by rw [h] at he; exact ⟨he, hw⟩

def Two (w0 : World) (B : Nat) (s : ByteArray) (bv uv av : Value) (wr : World) : Prop :=
  ∃ (l : List (Nat × Nat)) (f pos g1 c1 g2 c2 : Nat), av = .int .i64 pos ∧ bv = .slice (some ⟨g1, 0, none⟩) (l.length + 1) c1 ∧ uv = .slice (some ⟨g2, 0, none⟩) (l.length + 1) c2 ∧
    Split s l f pos ∧ okL (itemsF s f pos) = okB s ∧
    wr.ownsRow B 3 1 (.slice (some ⟨g1, 0, none⟩) (l.length + 1) c1) (l.length + 1) ((posL l 0).map I) ∧ wr.ownsRow B 3 1 (.slice (some ⟨g2, 0, none⟩) (l.length + 1) c2) (l.length + 1) ((unL l 0).map I) ∧
    g1 ≠ g2 ∧ Below B w0 wr
theorem start (w : World) (s : ByteArray) (e : TypeId) (he : e = 3) : Two w w.heap.size s (.slice (some ⟨w.heap.size, 0, none⟩) 1 1) (.slice (some ⟨w.heap.size + 1, 0, none⟩) 1 1) (.int .i64 0)
    ((w.alloc (.cells #[.int .i64 0] e)).alloc (.cells #[.int .i64 0] e)) := by
  subst he
  have h1 := World.ownsRow_lit (base := w.heap.size) (e := 3) (size := 1) w #[.int .i64 0] 1 (Nat.le_refl _) (by decide) rfl
  have h2 := World.ownsRow_lit (base := w.heap.size) (e := 3) (size := 1) (w.alloc (.cells #[.int .i64 0] 3)) #[.int .i64 0] 1 (by rw [World.size_alloc]; omega) (by decide) rfl
  rw [World.size_alloc] at h2
  exact ⟨[], s.size, 0, w.heap.size, 1, w.heap.size + 1, 1, rfl, rfl, rfl, split_zero s, rfl, h1.alloc _, h2, by omega, ((Below.refl _ _).alloc (Nat.le_refl _) _).alloc (by rw [World.size_alloc]; omega) _⟩
theorem info3 : (Tryd.prog.info? 3).map (fun i => (i.zero, i.size, i.bytes)) = some (some (.int .i64 0), 1, 8) := by kernel_rfl

/-- A scalar more: what the two appends leave is what the relation says of one scalar more. -/
theorem two_step {w0 wr w1 w2 : World} {s : ByteArray} {l : List (Nat × Nat)} {f pos m g1 c1 g2 c2 u : Nat} {v1 v2 : Value} {o1 o2 : Obj} {x y : Int}
    (hS : Split s l f pos) (hA : okL (itemsF s f pos) = okB s) (hm : l.length = m) (hp : pos < s.size) (hgood : ¬ ((Utf8.decode s pos).1 = 65533 ∧ (Utf8.decode s pos).2 = 1)) (hu : uw (Utf8.decode s pos).1 = u)
    (hx : x = ((pos + (Utf8.decode s pos).2 : Nat) : Int)) (hy : y = ((sumU l + u : Nat) : Int))
    (h1 : wr.ownsRow w0.heap.size 3 1 (.slice (some ⟨g1, 0, none⟩) (m + 1) c1) (m + 1) ((posL l 0).map I)) (h2 : wr.ownsRow w0.heap.size 3 1 (.slice (some ⟨g2, 0, none⟩) (m + 1) c2) (m + 1) ((unL l 0).map I))
    (hne : g1 ≠ g2) (hb : Below w0.heap.size w0 wr)
    (hv1 : w1.ownsRow w0.heap.size 3 1 v1 (m + 1 + 1) ((posL l 0).map I ++ [.int .i64 x])) (hg1 : (wr.alloc o1).grownBy w1 (some g1)) (hat1 : v1.ownBlock = some g1 ∨ v1.ownBlock = some (wr.alloc o1).heap.size)
    (hv2 : w2.ownsRow w0.heap.size 3 1 v2 (m + 1 + 1) ((unL l 0).map I ++ [.int .i64 y])) (hg2 : (w1.alloc o2).grownBy w2 (some g2)) (hat2 : v2.ownBlock = some g2 ∨ v2.ownBlock = some (w1.alloc o2).heap.size) :
    Two w0 w0.heap.size s v1 v2 (.int .i64 x) w2 := by
  obtain ⟨k, rfl⟩ : ∃ k, f = k + 1 := ⟨f - 1, by have := hS.2.2.1; omega⟩
  have hlt1 := h1.lt g1 rfl
  have hlt2 := h2.lt g2 rfl
  have hsz1 := hg1.size
  have hsz2 := hg2.size
  rw [World.size_alloc] at hsz1 hsz2 hat1 hat2
  have hsum : sumW l = pos := hS.2.1
  have e1 : (posL l 0).map I ++ [.int .i64 x] = (posL (l ++ [Utf8.decode s pos]) 0).map I := by
    rw [posL_snoc, hsum, hx]; simp [I]
  have e2 : (unL l 0).map I ++ [.int .i64 y] = (unL (l ++ [Utf8.decode s pos]) 0).map I := by
    rw [unL_snoc, hu, hy]; simp [I]
  rw [e1] at hv1
  rw [e2] at hv2
  have hlen : (l ++ [Utf8.decode s pos]).length = m + 1 := by simp [hm]
  obtain ⟨g1', c1', rfl⟩ := shape hv1
  obtain ⟨g2', c2', rfl⟩ := shape hv2
  have hl1 := hv1.lt g1' rfl
  have hl2 := hv2.lt g2' rfl
  simp only [Value.ownBlock, Option.some.injEq] at hat1 hat2
  have hk1 := (hv1.alloc o2).kept hg2 (.inr (by simp only [Value.ownBlock, ne_eq, Option.some.injEq]; omega))
  refine ⟨l ++ [Utf8.decode s pos], k, pos + (Utf8.decode s pos).2, g1', c1', g2', c2', by rw [hx], by rw [hlen], by rw [hlen], split_step hS hp, ?_, ?_, ?_, by omega, ?_⟩
  · rw [← hA, okL_on s k pos hp hgood]
  · rw [hlen]; exact hk1
  · rw [hlen]; exact hv2
  · exact (((hb.alloc hb.size o1).grown hg1 (by rw [World.size_alloc]; have := hb.size; omega) (fun j hj => by cases hj; omega)).alloc (by have := hb.size; omega) o2).grown hg2 (by rw [World.size_alloc]; have := hb.size; omega) (fun j hj => by cases hj; omega)
theorem keep_units {w w1 : World} {o : Obj} {B g1 c1 g2 c2 n k : Nat} {xs : List Value} (h : w.ownsRow B 3 1 (.slice (some ⟨g2, 0, none⟩) n c2) n xs) (hne : g1 ≠ g2) (hg : (w.alloc o).grownBy w1 (Value.slice (some ⟨g1, 0, none⟩) k c1).ownBlock) :
    w1.ownsRow B 3 1 (.slice (some ⟨g2, 0, none⟩) n c2) n xs := (h.alloc o).kept hg (.inr (by simp only [Value.ownBlock, ne_eq, Option.some.injEq]; omega))
theorem last_cell {w : World} {B g c m : Nat} {l : List (Nat × Nat)} (hm : l.length = m) (h : w.ownsRow B 3 1 (.slice (some ⟨g, 0, none⟩) (m + 1) c) (m + 1) ((unL l 0).map I)) : w.cell? ⟨g, m, none⟩ = some (.int .i64 (sumU l : Nat)) := by
  have hl := unL_last l 0
  rw [h.cellAt m (by omega), List.getElem?_map]
  rw [hm, Nat.zero_add, List.getD_eq_getElem?_getD] at hl
  have hlt : m < (unL l 0).length := by rw [unL_length]; omega
  rw [List.getElem?_eq_getElem hlt] at hl ⊢
  simp only [Option.getD_some] at hl
  rw [hl]; rfl

set_option maxHeartbeats 4000000 in
set_option maxRecDepth 100000 in
theorem places_any (s : ByteArray) (w : World) (hs : s.size ≤ 1048576) :
    Calls Tryd.prog 22 #[.string s] w (PlacesPost s w) := by
  have HST := Lib.hid (start w s 3 rfl)
  obtain ⟨i0, hi, hz0, hz1, hz2⟩ := info_parts info3
  go_enter Tryd.func22, Tryd.ntmps22
  go_wp2
  go_loopw [5, 6, 7] (fun bv uv av wr => Two w w.heap.size s bv uv av wr) (fun _ _ av _ => s.size - (intOf av).toNat)
  case atStart => exact HST.out
  case round =>
    clear HST
    obtain ⟨l, f, pos, g1, c1, g2, c2, rfl, rfl, rfl, hS, hA, h1, h2, hne, hb⟩ := hrel
    obtain ⟨m, hm⟩ : ∃ m, l.length = m := ⟨_, rfl⟩
    rw [hm] at h1 h2 ⊢
    have HS := Lib.hid hS
    have HA := Lib.hid hA
    have hpos : pos ≤ s.size := hS.2.2.2
    have hlen : m ≤ 1048576 := by
      have h3 := itemsF_wide s s.size 0
      have h4 := hS.1
      have h5 := hS.2.1
      have hW : Wide l := fun y hy => h3 y (by show y ∈ items s; rw [h4]; simp [hy])
      have := length_le l hW
      omega
    have hsu : sumU l ≤ 2097152 := by
      have h3 := itemsF_wide s s.size 0
      have h4 := hS.1
      have h5 := hS.2.1
      have hW : Wide l := fun y hy => h3 y (by show y ∈ items s; rw [h4]; simp [hy])
      have := sumU_le l hW
      omega
    have hlast := last_cell (w := wr) hm h2
    have HM := Lib.hid hm
    clear hS hA hm
    by_cases hp : pos < s.size
    · by_cases hbad : (Utf8.decode s pos).1 = 65533 ∧ (Utf8.decode s pos).2 = 1
      · have hsc : scal (s.extract pos s.size) = (0, 0) := by rw [scal_at, if_pos hbad]
        have cS := scalar_is (s.extract pos s.size) wr 0 0 (by rw [ext_size]; omega) (by rw [ext_size]; omega) hsc
        have hok : Hid (okB s = false) := Lib.hid (by
          obtain ⟨k, rfl⟩ : ∃ k, f = k + 1 := ⟨f - 1, by have := HS.out.2.2.1; omega⟩
          rw [← HA.out]; exact okL_bad s k pos hp hbad)
        clear hbad hsc
        go_wp2_with (go_at_call 32; refine cS.mono ?_; rintro e w1 ⟨rfl, rfl⟩)
        go_ret3
        exact places_bad hok.out hb
      · obtain ⟨d, hd⟩ : ∃ d, Utf8.decode s pos = d := ⟨_, rfl⟩
        have hsc : scal (s.extract pos s.size) = (d.1, d.2) := by rw [scal_at, if_neg hbad, hd]
        have hw1 := width_pos s pos hp
        have hw2 := width_le s pos hp
        have hr := rune_le s pos
        have HG := Lib.hid hbad
        have HD := Lib.hid hd
        rw [hd] at hw1 hw2 hr
        obtain ⟨r, wd⟩ := d
        simp only at hw1 hw2 hr hsc
        have cS := scalar_is (s.extract pos s.size) wr r wd (by rw [ext_size]; omega) (by rw [ext_size]; omega) hsc
        obtain ⟨S, hSe⟩ : ∃ S, sumU l = S := ⟨_, rfl⟩
        have HSe := Lib.hid hSe
        rw [hSe] at hlast hsu
        clear hbad hsc hd hSe
        clear hlast
        have hn0 : ((wd : Int) == 0) = false := by simp; omega
        by_cases h65 : 65536 ≤ r
        · have h65z : (65536 : Int) ≤ (r : Int) := by omega
          have hu : Hid (uw (Utf8.decode s pos).1 = 2) := Lib.hid (by rw [HD.out]; unfold uw; rw [if_pos (by simp only; omega)])
          go_wp2_with (first
            | (go_at_call 32; refine cS.mono ?_; rintro e w1 ⟨rfl, rfl⟩)
            | (at_builtin; refine wpList_append_own_at _ rfl (.tmp 31) (.tmp 33) 41 rfl w.heap.size 3 i0 (.int .i64 0) 1 8 Tryd.underlying41 hi hz0 hz1 hz2 rfl (by decide) _ _ _ rfl (h1.alloc _) ⟨wr.heap.size, 0, none⟩ 1 1 [.int .i64 ((pos : Int) + (wd : Int))] rfl rfl (cell_one_new _ _ _) (by intro u hu; simp at hu; subst hu; rfl) (by unfold maxLen; omega) (by omega) (by have := hb.size; simp; omega) ?_; intro v1 w1 hv1 hg1 _ hat1; have hk := keep_units h2 hne hg1; have hlast1 := last_cell HM.out hk; rw [HSe.out] at hlast1)
            | (at_builtin; refine wpList_append_own_at _ rfl (.tmp 35) (.tmp 44) 41 rfl w.heap.size 3 i0 (.int .i64 0) 1 8 Tryd.underlying41 hi hz0 hz1 hz2 rfl (by decide) _ _ _ rfl (hk.alloc _) ⟨w1.heap.size, 0, none⟩ 1 1 [.int .i64 ((S : Int) + 2)] rfl rfl (cell_one_new _ _ _) (by intro u hu; simp at hu; subst hu; rfl) (by unfold maxLen; omega) (by omega) (by have := hb.size; have := hg1.size; simp at this ⊢; omega) ?_; intro v2 w2 hv2 hg2 _ hat2))
          go_roundw
          case rel => exact two_step HS.out HA.out HM.out hp HG.out hu.out (by rw [HD.out]; omega) (by rw [HSe.out]; omega) h1 h2 hne hb hv1 hg1 hat1 hv2 hg2 hat2
          case measure => simp [intOf]; omega
        · have h65z : decide ((65536 : Int) ≤ (r : Int)) = false := decide_eq_false (by omega)
          have hu : Hid (uw (Utf8.decode s pos).1 = 1) := Lib.hid (by rw [HD.out]; unfold uw; rw [if_neg (by simp only; omega)])
          clear h65
          go_wp2_with (first
            | (go_at_call 32; refine cS.mono ?_; rintro e w1 ⟨rfl, rfl⟩)
            | (at_builtin; refine wpList_append_own_at _ rfl (.tmp 31) (.tmp 33) 41 rfl w.heap.size 3 i0 (.int .i64 0) 1 8 Tryd.underlying41 hi hz0 hz1 hz2 rfl (by decide) _ _ _ rfl (h1.alloc _) ⟨wr.heap.size, 0, none⟩ 1 1 [.int .i64 ((pos : Int) + (wd : Int))] rfl rfl (cell_one_new _ _ _) (by intro u hu; simp at hu; subst hu; rfl) (by unfold maxLen; omega) (by omega) (by have := hb.size; simp; omega) ?_; intro v1 w1 hv1 hg1 _ hat1; have hk := keep_units h2 hne hg1; have hlast1 := last_cell HM.out hk; rw [HSe.out] at hlast1)
            | (at_builtin; refine wpList_append_own_at _ rfl (.tmp 35) (.tmp 44) 41 rfl w.heap.size 3 i0 (.int .i64 0) 1 8 Tryd.underlying41 hi hz0 hz1 hz2 rfl (by decide) _ _ _ rfl (hk.alloc _) ⟨w1.heap.size, 0, none⟩ 1 1 [.int .i64 ((S : Int) + 1)] rfl rfl (cell_one_new _ _ _) (by intro u hu; simp at hu; subst hu; rfl) (by unfold maxLen; omega) (by omega) (by have := hb.size; have := hg1.size; simp at this ⊢; omega) ?_; intro v2 w2 hv2 hg2 _ hat2))
          go_roundw
          case rel => exact two_step HS.out HA.out HM.out hp HG.out hu.out (by rw [HD.out]; omega) (by rw [HSe.out]; omega) h1 h2 hne hb hv1 hg1 hat1 hv2 hg2 hat2
          case measure => simp [intOf]; omega
    · have hok : Hid (okB s = true) := Lib.hid (by rw [← HA.out]; exact okL_done s f pos hp)
      go_wp2
      go_ret3
      rw [← HM.out] at h1 h2 ⊢
      exact places_fin hok.out (split_done HS.out hp) h1 h2 hb
end Go.Proofs.YtapjomdplibanaaDoor.U

namespace Go.Proofs.YtapjomdplibanaaDoor.U
open Go.RowKit
open Go.Lib hiding intOf

theorem ref_right_big (s : ByteArray) (w : World) (hs : s.size ≤ 1048576) :
    Calls Tryd.prog 15 #[.string s] w fun e w' => e = .returned (.bool (okB s)) ∧ Below w.heap.size w w' := by
  have cP := places_any s w hs
  unfold PlacesPost at cP
  cases hok : okB s
  · rw [hok] at cP
    simp only [Bool.false_eq_true, if_false] at cP
    go_enter Tryd.func15, Tryd.ntmps15
    go_wp2_with (go_at_call 22; refine cP.mono ?_; rintro e w1 ⟨rfl, hb⟩)
    go_ret
    exact ⟨rfl, hb⟩
  · rw [hok] at cP
    simp only [if_true] at cP
    go_enter Tryd.func15, Tryd.ntmps15
    go_wp2_with (go_at_call 22; refine cP.mono ?_; rintro e w1 ⟨g1, k1, g2, k2, rfl, _, _, hb, _, _⟩)
    go_ret
    exact ⟨rfl, hb⟩
theorem ref_right (s : ByteArray) (w : World) (hs : s.size ≤ 1000000) :
    Calls Tryd.prog 15 #[.string s] w fun e w' => e = .returned (.bool (okB s)) ∧ Below w.heap.size w w' := ref_right_big s w (by omega)
end Go.Proofs.YtapjomdplibanaaDoor.U

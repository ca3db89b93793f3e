/- The contract of writeText. -/
import Derived.Test.YtfjdeacpdcnjpaaGreatDoorVRead13
import Derived.Test.YtfjdeacpdcnjpaaGreatDoorVBuild
namespace Go.Proofs.YtfjdeacpdcnjpaaGreatDoor.V
open Go.RowKit
open Go.Lib

/-- A builder in block b has these bytes. -/
abbrev Bld (B b : Nat) (l : List UInt8) (w : World) : Prop := Lib.IsBuilderF 52 5 B b (Lib.byteCells l) w

/-- What a call leaves that writes into the builder in block b: all blocks below B, and all others that hold no bytes. -/
structure Far (B b : Nat) (w w' : World) : Prop where
  below : Below B w w'
  others : Lib.OthersKept 5 (some b) w w'
theorem Far.refl (B b : Nat) (w : World) : Far B b w w := ⟨Below.refl _ _, Lib.OthersKept.refl _ _ _⟩
theorem Far.trans {B b : Nat} {w w1 w2 : World} (h : Far B b w w1) (k : Far B b w1 w2) : Far B b w w2 := ⟨h.below.trans k.below, h.others.trans k.others⟩
theorem Far.size {B b : Nat} {w w' : World} (h : Far B b w w') : w.heap.size ≤ w'.heap.size := h.below.size
theorem Far.alloc {B b : Nat} {w w' : World} (h : Far B b w w') (hB : B ≤ w'.heap.size) (o : Obj) : Far B b w (w'.alloc o) := ⟨h.below.alloc hB o, h.others.alloc o⟩
theorem Far.of_below {B b : Nat} {w w' : World} (hB : B ≤ w.heap.size) (h : Below w.heap.size w w') : Far B b w w' := ⟨h.mono hB, fun k _ hk _ _ => (h.block k (Array.getElem?_eq_some_iff.1 hk).1).trans hk⟩

theorem bld_later {B b : Nat} {l : List UInt8} {w w' : World} (h : Bld B b l w) (hm : Below w.heap.size w w') : Bld B b l w' := by
  have one : ∀ p, Lib.BuilderAtF 52 5 B b p (Lib.byteCells l) w → Lib.BuilderAtF 52 5 B b p (Lib.byteCells l) w' := by
    rintro p ⟨hB, v, hb, hown, hne⟩
    have hlt : b < w.heap.size := (Array.getElem?_eq_some_iff.1 hb).1
    refine ⟨hB, v, by rw [hm.block b hlt]; exact hb, ⟨hown.1, ?_⟩, hne⟩
    rcases hown.2 with hn | ⟨g, cap, cur, fz, hv, hg, hgg, rest⟩
    · exact .inl hn
    · refine .inr ⟨g, cap, cur, fz, hv, hg, ?_, rest⟩
      rw [hm.block g (Array.getElem?_eq_some_iff.1 hgg).1]
      exact hgg
  exact h.elim (fun x => .inl (one _ x)) (fun x => .inr (one _ x))
theorem bld_lt {B b : Nat} {l : List UInt8} {w : World} (h : Bld B b l w) : b < w.heap.size := by
  rcases h with ⟨_, v, hb, _⟩ | ⟨_, v, hb, _⟩ <;> exact (Array.getElem?_eq_some_iff.1 hb).1

theorem bld_byte (B b : Nat) (l : List UInt8) (c : UInt8) (w : World) (h : Bld B b l w) (hlen : l.length + 1 ≤ 140737488355328) (hBw : B ≤ w.heap.size) :
    Calls Tryz.prog 57 #[.pointer (some ⟨b, 0, none⟩), .int .u8 (c.toNat : Int)] w fun e w' => e = .returned .nilIface ∧ Bld B b (l ++ [c]) w' ∧ Far B b w w' :=
  (Builder_WriteByte_k B b (Lib.byteCells l) c.toNat w h (by rw [Lib.byteCells_length]; exact hlen) hBw).mono fun e w' ⟨h1, h2, h3, h4⟩ => ⟨h1, .inr (by rw [Lib.byteCells_append]; exact h2), ⟨h3, h4⟩⟩
theorem bld_string (B b : Nat) (l t : List UInt8) (w : World) (h : Bld B b l w) (hlen : l.length + t.length ≤ 140737488355328) (hBw : B ≤ w.heap.size) :
    Calls Tryz.prog 31 #[.pointer (some ⟨b, 0, none⟩), .string ⟨t.toArray⟩] w fun e w' => (∃ n, e = .returned (.tuple #[n, .nilIface])) ∧ Bld B b (l ++ t) w' ∧ Far B b w w' :=
  (Builder_WriteString_k B b (Lib.byteCells l) ⟨t.toArray⟩ w h (by rw [Lib.byteCells_length, size_mk]; exact hlen) hBw).mono fun e w' ⟨h1, h2, h3, h4⟩ => ⟨⟨_, h1⟩, .inr (by rw [Lib.byteCells_append]; exact h2), ⟨h3, h4⟩⟩

theorem drop_at {s : ByteArray} {i : Nat} (h : i < s.size) : s.data.toList.drop i = s[i] :: s.data.toList.drop (i + 1) := by
  have h' : i < s.data.toList.length := by simpa using h
  rw [List.drop_eq_getElem_cons h']; rfl
theorem quoteB_low {c : UInt8} (h : c < 32) : quoteB c = [92, 117, 48, 48] ++ [hexd (c.toNat / 16)] ++ [hexd (c.toNat % 16)] := by simp [quoteB, h]
theorem quoteB_esc {c : UInt8} (h : ¬ c < 32) (h2 : c = 34 ∨ c = 92) : quoteB c = [92] ++ [c] := by simp only [quoteB, if_neg h, if_pos h2]; rfl
theorem quoteB_one {c : UInt8} (h : ¬ c < 32) (h2 : ¬ (c = 34 ∨ c = 92)) : quoteB c = [c] := by simp only [quoteB, if_neg h, if_neg h2]

def hexS : ByteArray := ⟨#[48, 49, 50, 51, 52, 53, 54, 55, 56, 57, 97, 98, 99, 100, 101, 102]⟩
theorem hex_at (n : Nat) (h : n < (⟨#[48, 49, 50, 51, 52, 53, 54, 55, 56, 57, 97, 98, 99, 100, 101, 102]⟩ : ByteArray).size) : (⟨#[48, 49, 50, 51, 52, 53, 54, 55, 56, 57, 97, 98, 99, 100, 101, 102]⟩ : ByteArray)[n] = hexd n := by
  have hk : ∀ k : Fin 16, hexS[k.val]'k.isLt = hexd k.val := by decide +kernel
  exact hk ⟨n, h⟩

set_option maxHeartbeats 4000000 in
theorem text_s (B b : Nat) (acc : List UInt8) (s : ByteArray) (w : World) (h : Bld B b acc w) (hlen : acc.length + (quoteT s.data.toList).length ≤ 140737488355328) (hBw : B ≤ w.heap.size) (ht : s.size ≤ 1099511627776) :
    Calls Tryz.prog 34 #[.pointer (some ⟨b, 0, none⟩), .string s] w fun e w' => e = .returned (.tuple #[]) ∧ Bld B b (acc ++ quoteT s.data.toList) w' ∧ Far B b w w' := by
  obtain ⟨T, hT⟩ : ∃ T, acc ++ quoteT s.data.toList = T := ⟨_, rfl⟩
  rw [hT]
  have hTl : T.length ≤ 140737488355328 := by rw [← hT, List.length_append]; exact hlen
  have HT := Lib.hid (show (acc ++ [34]) ++ ((s.data.toList.drop 0).flatMap quoteB ++ [34]) = T by rw [← hT]; simp [quoteT])
  have c1 := bld_byte B b acc 34 w h (by simp [quoteT] at hlen; omega) hBw
  clear hT hlen h
  go_enter Tryz.func34, Tryz.ntmps34
  go_wp2_with fail
  refine c1.mono ?_
  rintro e w1 ⟨rfl, hB1, hb1⟩
  clear c1
  go_wp2_with fail
  have HB1 := Lib.hid hB1
  have HW1 := Lib.hid hb1
  have hz1 := hb1.size
  clear hB1 hb1
  go_loopw [10] (fun iv wr => ∃ (i : Nat) (pre : List UInt8), iv = .int .i64 i ∧ i ≤ s.size ∧ Hid (pre ++ ((s.data.toList.drop i).flatMap quoteB ++ [34]) = T) ∧ Hid (Bld B b pre wr) ∧ Hid (Far B b w wr)) (fun iv _ => s.size - (Go.RowKit.intOf iv).toNat)
  case atStart => exact ⟨0, _, rfl, by omega, HT, HB1, HW1⟩
  case round =>
    obtain ⟨i, pre, rfl, hi, HI, HB, HW⟩ := hrel
    have hz := HW.out.size
    have hBr : B ≤ wr.heap.size := by omega
    by_cases hlt : i < s.size
    · have hI := HI.out
      rw [drop_at hlt, List.flatMap_cons] at hI
      by_cases k1 : s[i] < 32
      · have t1 : decide (((s[i]).toNat : Int) < 32) = true := by have := UInt8.lt_iff_toNat_lt.1 k1; simp at this; simp; omega
        rw [quoteB_low k1] at hI
        have hl9 : pre.length + 6 ≤ 140737488355328 := by rw [← hI] at hTl; simp at hTl; omega
        have HI2 := Lib.hid (show (pre ++ [92, 117, 48, 48] ++ [hexd ((s[i]).toNat / 16)] ++ [hexd ((s[i]).toNat % 16)]) ++ ((s.data.toList.drop (i + 1)).flatMap quoteB ++ [34]) = T by rw [← hI]; simp)
        have c2 := bld_string B b pre [92, 117, 48, 48] wr HB.out (by simp; omega) hBr
        have hx : (s[i]).toNat < 32 := by have := UInt8.lt_iff_toNat_lt.1 k1; simpa using this
        have hx1 : ((s[i]).toNat : Int) / 16 < 16 := by omega
        have hx2 : ((s[i]).toNat : Int) % 16 < 16 := by omega
        clear k1 hI
        go_wp2_with fail
        refine c2.mono ?_
        rintro e w2 ⟨⟨ln, rfl⟩, hB2, hb2⟩
        have HW2 := Lib.hid (HW.out.trans hb2)
        have c3 := bld_byte B b (pre ++ [92, 117, 48, 48]) (hexd ((s[i]).toNat / 16)) w2 hB2 (by simp; omega) (Nat.le_trans hBr hb2.size)
        have hB2z := Nat.le_trans hBr hb2.size
        clear c2 hb2 hB2
        go_wp2_with fail
        simp only [hex_at]
        refine c3.mono ?_
        rintro e w3 ⟨rfl, hB3, hb3⟩
        have HW3 := Lib.hid (HW2.out.trans hb3)
        have c4 := bld_byte B b (pre ++ [92, 117, 48, 48] ++ [hexd ((s[i]).toNat / 16)]) (hexd ((s[i]).toNat % 16)) w3 hB3 (by simp; omega) (Nat.le_trans hB2z hb3.size)
        clear c3 hb3 hB3
        go_wp2_with fail
        simp only [hex_at]
        refine c4.mono ?_
        rintro e w4 ⟨rfl, hB4, hb4⟩
        have HB4 := Lib.hid hB4
        have HW4 := Lib.hid (HW3.out.trans hb4)
        clear c4 hb4 hB4
        go_wp2_with fail
        go_roundw
        case rel => exact ⟨i + 1, _, by go_num, by omega, HI2, HB4, HW4⟩
        case measure => simp [Go.RowKit.intOf]; omega
      · have t1 : decide (((s[i]).toNat : Int) < 32) = false := by
          have : ¬ (s[i]).toNat < 32 := fun h => k1 (UInt8.lt_iff_toNat_lt.2 (by simpa using h))
          simp; omega
        by_cases k2 : s[i] = 34 ∨ s[i] = 92
        · rw [quoteB_esc k1 k2] at hI
          have hl9 : pre.length + 2 ≤ 140737488355328 := by rw [← hI] at hTl; simp at hTl; omega
          have HI2 := Lib.hid (show (pre ++ [92] ++ [s[i]]) ++ ((s.data.toList.drop (i + 1)).flatMap quoteB ++ [34]) = T by rw [← hI]; simp)
          have c2 := bld_byte B b pre 92 wr HB.out (by omega) hBr
          by_cases k3 : s[i] = 34
          · have t2 : (((s[i]).toNat : Int) == 34) = true := u8_eq k3
            clear k1 k2 hI k3
            go_wp2_with fail
            refine c2.mono ?_
            rintro e w2 ⟨rfl, hB2, hb2⟩
            have HW2 := Lib.hid (HW.out.trans hb2)
            have c3 := bld_byte B b (pre ++ [92]) s[i] w2 hB2 (by simp; omega) (Nat.le_trans hBr hb2.size)
            clear c2 hB2 hb2
            go_wp2_with fail
            refine c3.mono ?_
            rintro e w3 ⟨rfl, hB3, hb3⟩
            have HB3 := Lib.hid hB3
            have HW3 := Lib.hid (HW2.out.trans hb3)
            clear c3 hB3 hb3
            go_wp2_with fail
            go_roundw
            case rel => exact ⟨i + 1, _, by go_num, by omega, HI2, HB3, HW3⟩
            case measure => simp [Go.RowKit.intOf]; omega
          · have t2 : (((s[i]).toNat : Int) == 34) = false := u8_ne k3
            have t3 : (((s[i]).toNat : Int) == 92) = true := u8_eq (k2.resolve_left k3)
            clear k1 k2 hI k3
            go_wp2_with fail
            refine c2.mono ?_
            rintro e w2 ⟨rfl, hB2, hb2⟩
            have HW2 := Lib.hid (HW.out.trans hb2)
            have c3 := bld_byte B b (pre ++ [92]) s[i] w2 hB2 (by simp; omega) (Nat.le_trans hBr hb2.size)
            clear c2 hB2 hb2
            go_wp2_with fail
            refine c3.mono ?_
            rintro e w3 ⟨rfl, hB3, hb3⟩
            have HB3 := Lib.hid hB3
            have HW3 := Lib.hid (HW2.out.trans hb3)
            clear c3 hB3 hb3
            go_wp2_with fail
            go_roundw
            case rel => exact ⟨i + 1, _, by go_num, by omega, HI2, HB3, HW3⟩
            case measure => simp [Go.RowKit.intOf]; omega
        · rw [quoteB_one k1 k2] at hI
          have t2 : (((s[i]).toNat : Int) == 34) = false := u8_ne (fun h => k2 (.inl h))
          have t3 : (((s[i]).toNat : Int) == 92) = false := u8_ne (fun h => k2 (.inr h))
          have hl9 : pre.length + 2 ≤ 140737488355328 := by rw [← hI] at hTl; simp at hTl; omega
          have HI2 := Lib.hid (show (pre ++ [s[i]]) ++ ((s.data.toList.drop (i + 1)).flatMap quoteB ++ [34]) = T by rw [← hI]; simp)
          have c2 := bld_byte B b pre s[i] wr HB.out (by omega) hBr
          clear k1 k2 hI
          go_wp2_with fail
          refine c2.mono ?_
          rintro e w2 ⟨rfl, hB2, hb2⟩
          have HB2 := Lib.hid hB2
          have HW2 := Lib.hid (HW.out.trans hb2)
          clear c2 hB2 hb2
          go_wp2_with fail
          go_roundw
          case rel => exact ⟨i + 1, _, by go_num, by omega, HI2, HB2, HW2⟩
          case measure => simp [Go.RowKit.intOf]; omega
    · have hdr : s.data.toList.drop i = [] := List.drop_eq_nil_of_le (by simp; omega)
      have hI := HI.out
      rw [hdr] at hI
      have c9 := bld_byte B b pre 34 wr HB.out (by rw [← hI] at hTl; simp at hTl; omega) hBr
      have HF := Lib.hid hI
      clear hdr hI
      go_wp2_with fail
      refine c9.mono ?_
      rintro e w2 ⟨rfl, hB2, hb2⟩
      have HB2 := Lib.hid hB2
      have HW2 := Lib.hid (HW.out.trans hb2)
      clear c9 hB2 hb2
      go_wp2_with fail
      refine bodyPost_end (results_none rfl _ _ _) rfl ?_
      exact ⟨rfl, by rw [← HF.out]; exact HB2.out, HW2.out⟩
end Go.Proofs.YtfjdeacpdcnjpaaGreatDoor.V

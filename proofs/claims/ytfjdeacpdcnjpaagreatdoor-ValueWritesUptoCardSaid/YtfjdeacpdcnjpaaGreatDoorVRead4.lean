/- The contract of a text between quotes. -/
import Derived.Test.YtfjdeacpdcnjpaaGreatDoorVRead3
import Derived.Test.YtfjdeacpdcnjpaaGreatDoorVBuild
namespace Go.Proofs.YtfjdeacpdcnjpaaGreatDoor.V
open Go.RowKit
open Go.Lib

/-- A builder goes on where block d alone has turned. -/
theorem builder_mut {T e : TypeId} {B b d : Nat} {bs : List Value} {w w' : World} (h : Lib.IsBuilderF T e B b bs w) (hd : d < B) (hm : Mut w.heap.size d w w') : Lib.IsBuilderF T e B b bs w' := by
  have one : ∀ p, Lib.BuilderAtF T e B b p bs w → Lib.BuilderAtF T e B b p bs w' := by
    rintro p ⟨hB, v, hb, hown, hne⟩
    have hlt : b < w.heap.size := (Array.getElem?_eq_some_iff.1 hb).1
    refine ⟨hB, v, by rw [hm.block b hlt (by omega)]; exact hb, ⟨hown.1, ?_⟩, hne⟩
    rcases hown.2 with hn | ⟨g, cap, cur, fz, hv, hg, hgg, rest⟩
    · exact .inl hn
    · refine .inr ⟨g, cap, cur, fz, hv, hg, ?_, rest⟩
      rw [hm.block g (Array.getElem?_eq_some_iff.1 hgg).1 (by omega)]
      exact hgg
  exact h.elim (fun x => .inl (one _ x)) (fun x => .inr (one _ x))

theorem unit_len {l r : List UInt8} {n : Nat} (h : unit l = some (n, r)) : r.length < l.length := by
  match l, h with
  | x :: y :: z :: u :: r', h =>
    simp only [unit, Option.map_eq_some_iff, Prod.mk.injEq] at h
    obtain ⟨m, _, _, rfl⟩ := h
    simp; omega
theorem scalarE_len {l r : List UInt8} {n : Nat} (h : scalarE l = some (n, r)) : r.length < l.length := by
  unfold scalarE at h
  cases h1 : unit l with
  | none => rw [h1] at h; cases h
  | some p =>
    obtain ⟨a, r1⟩ := p
    have hl := unit_len h1
    rw [h1] at h
    simp only at h
    split at h
    · cases h; exact hl
    · split at h
      · cases h
      · split at h
        · rename_i r'
          cases h2 : unit r' with
          | none => rw [h2] at h; cases h
          | some q =>
            obtain ⟨b, r2⟩ := q
            have hl2 := unit_len h2
            rw [h2] at h
            simp only at h
            split at h
            · cases h
            · simp only [Option.some.injEq, Prod.mk.injEq] at h
              obtain ⟨_, rfl⟩ := h
              simp at hl; omega
        · cases h
theorem escape_len {l r : List UInt8} {n : Nat} (h : escape l = some (n, r)) : r.length < l.length := by
  match l, h with
  | c :: r', h =>
    simp only [escape] at h
    split at h
    · have := scalarE_len h; simp; omega
    · simp only [Option.map_eq_some_iff, Prod.mk.injEq] at h
      obtain ⟨_, _, _, rfl⟩ := h
      simp
theorem scalarE_lt {l r : List UInt8} {n : Nat} (h : scalarE l = some (n, r)) : n ≤ 1114111 := by
  unfold scalarE at h
  cases h1 : unit l with
  | none => rw [h1] at h; cases h
  | some p =>
    obtain ⟨a, r1⟩ := p
    have hl := unit_lt h1
    rw [h1] at h
    simp only at h
    split at h
    · cases h; omega
    · split at h
      · cases h
      · split at h
        · rename_i r'
          cases h2 : unit r' with
          | none => rw [h2] at h; cases h
          | some q =>
            obtain ⟨b, r2⟩ := q
            rw [h2] at h
            simp only at h
            split at h
            · cases h
            · simp only [Option.some.injEq, Prod.mk.injEq] at h
              obtain ⟨rfl, _⟩ := h
              omega
        · cases h
theorem escape_lt {l r : List UInt8} {n : Nat} (h : escape l = some (n, r)) : n ≤ 1114111 := by
  match l, h with
  | c :: r', h =>
    simp only [escape] at h
    split at h
    · exact scalarE_lt h
    · simp only [Option.map_eq_some_iff, Prod.mk.injEq] at h
      obtain ⟨m, h2, rfl, _⟩ := h
      unfold escLetter at h2
      repeat' (split at h2; · cases h2; omega)
      cases h2

theorem left_rd {d : Nat} {s : ByteArray} {l : List UInt8} {o : Int} {w : World} (h : RdL d s l o w) : s.size - atOf d w = l.length := by
  obtain ⟨a, h1, h2, h3⟩ := h
  rw [atOf_rd h3, ← h2, List.length_drop, ← Lib.size_eq]
theorem RdL.mut {d : Nat} {s : ByteArray} {l : List UInt8} {o : Int} {w w' : World} {B : Nat} (h : RdL d s l o w) (hd : d < B) (hb : Below B w w') : RdL d s l o w' := by
  obtain ⟨a, h1, h2, h3⟩ := h; exact ⟨a, h1, h2, (hb.block d hd).trans h3⟩
/-- The next byte, and the reader behind it. -/
theorem RdL.next {d : Nat} {s : ByteArray} {c : UInt8} {r : List UInt8} {o : Int} {w : World} (h : RdL d s (c :: r) o w) :
    ∃ (a : Nat) (ha : a < s.size), Rd d s a o w ∧ s[a] = c ∧ s.data.toList.drop (a + 1) = r := by
  obtain ⟨a, ha, hl, hR⟩ := h
  have hlt : a < s.size := by
    have := congrArg List.length hl
    rw [List.length_drop, ← Lib.size_eq] at this; simp at this; omega
  refine ⟨a, hlt, hR, ?_, ?_⟩
  · have := drop_get s a 0 (by omega)
    rw [hl] at this; simpa using this.symm
  · rw [← List.drop_drop, hl]; rfl
theorem RdL.done {d : Nat} {s : ByteArray} {o : Int} {w : World} (h : RdL d s [] o w) : Rd d s s.size o w := by
  obtain ⟨a, ha, hl, h⟩ := h
  have := congrArg List.length hl
  rw [List.length_drop, ← Lib.size_eq] at this
  obtain rfl : a = s.size := by simp at this; omega
  exact h
theorem u8_eq {c n : UInt8} (h : c = n) : ((c.toNat : Int) == (n.toNat : Int)) = true := by simp [h]
theorem u8_ne {c n : UInt8} (h : ¬ c = n) : ((c.toNat : Int) == (n.toNat : Int)) = false := by
  simp; intro h2; exact h (UInt8.toNat_inj.1 (by omega))

theorem quoted_end {f : Nat} {c : UInt8} {r acc : List UInt8} (h : c = 34) : quoted (f + 1) (c :: r) acc = some (acc, r) := by simp only [quoted, if_pos h]
theorem quoted_low {f : Nat} {c : UInt8} {r acc : List UInt8} (h : ¬ c = 34) (h2 : c < 32) : quoted (f + 1) (c :: r) acc = none := by simp only [quoted, if_neg h, if_pos h2]
theorem quoted_wrong {f : Nat} {c : UInt8} {r acc : List UInt8} (h : ¬ c = 34) (h2 : ¬ c < 32) (h3 : c = 92) (h4 : escape r = none) : quoted (f + 1) (c :: r) acc = none := by simp only [quoted, if_neg h, if_neg h2, if_pos h3, h4]
theorem quoted_esc {f : Nat} {c : UInt8} {r acc r' : List UInt8} {x : Nat} (h : ¬ c = 34) (h2 : ¬ c < 32) (h3 : c = 92) (h4 : escape r = some (x, r')) : quoted (f + 1) (c :: r) acc = quoted f r' (acc ++ encodeRune x) := by simp only [quoted, if_neg h, if_neg h2, if_pos h3, h4]
theorem quoted_byte {f : Nat} {c : UInt8} {r acc : List UInt8} (h : ¬ c = 34) (h2 : ¬ c < 32) (h3 : ¬ c = 92) : quoted (f + 1) (c :: r) acc = quoted f r (acc ++ [c]) := by simp only [quoted, if_neg h, if_neg h2, if_neg h3]

/-- A text that is read: it, and what is left. -/
def ReadsT (d : Nat) (s : ByteArray) (o : Int) (r : Option (List UInt8 × List UInt8)) (w : World) (e : Ending) (w' : World) : Prop :=
  match r with
  | some (t, l) => e = .returned (.tuple #[.string ⟨t.toArray⟩, .bool true]) ∧ RdL d s l o w' ∧ Mut w.heap.size d w w'
  | none => ∃ (m : ByteArray) (l : List UInt8), e = .returned (.tuple #[.string m, .bool false]) ∧ RdL d s l o w' ∧ Mut w.heap.size d w w'
theorem readsT_some {d : Nat} {s : ByteArray} {o : Int} {r : Option (List UInt8 × List UInt8)} {w w' : World} {t l : List UInt8} (h : r = some (t, l)) (h1 : RdL d s l o w') (h2 : Mut w.heap.size d w w') :
    ReadsT d s o r w (.returned (.tuple #[.string ⟨t.toArray⟩, .bool true])) w' := by subst h; exact ⟨rfl, h1, h2⟩
theorem readsT_none {d : Nat} {s : ByteArray} {o : Int} {r : Option (List UInt8 × List UInt8)} {w w' : World} {m : ByteArray} {l : List UInt8} (h : r = none) (h1 : RdL d s l o w') (h2 : Mut w.heap.size d w w') :
    ReadsT d s o r w (.returned (.tuple #[.string m, .bool false])) w' := by subst h; exact ⟨m, l, rfl, h1, h2⟩

set_option maxHeartbeats 4000000 in
theorem quoted_any (d : Nat) (s : ByteArray) (l : List UInt8) (o : Int) (B0 : Nat) (w : World) (hr : RdL d s l o w) (hE : Env B0 w) (hd : B0 ≤ d) (hs : s.size ≤ 1099511627776) :
    Calls Tryz.prog 68 #[.pointer (some ⟨d, 0, none⟩)] w (ReadsT d s o (quotedA l) w) := by
  obtain ⟨R, hR⟩ : ∃ R, quoted (l.length + 1) l [] = R := ⟨_, rfl⟩
  have HR := Lib.hid hR
  have e0 : quotedA l = R := hR
  rw [e0]
  have hlen := hr.len
  have hdlt := hr.lt
  clear hR e0
  go_enter Tryz.func68, Tryz.ntmps68
  go_wp2_with fail
  go_loopw [] (fun w' => ∃ (f : Nat) (l' acc : List UInt8), RdL d s l' o w' ∧ Mut w.heap.size d w w' ∧ Lib.IsBuilderF 52 5 w.heap.size w.heap.size (Lib.byteCells acc) w' ∧ Hid (quoted f l' acc = R) ∧ l'.length < f ∧ acc.length + 4 * l'.length ≤ 4 * s.size) (fun w' => s.size - atOf d w')
  case atStart => exact ⟨l.length + 1, l, [], hr.below ((Below.refl _ _).alloc (Nat.le_refl _) _), (Mut.refl _ _ _).alloc (Nat.le_refl _) _, .inl ⟨Nat.le_refl _, .slice none 0 0, heap_alloc_new _ _, World.ownsRowF_nil _ _ _ _, by simp [Value.ownBlock]⟩, HR, by omega, by simp; omega⟩
  case round =>
    obtain ⟨f, l', acc, hrl, hm, hB, HQ, hf, hacc⟩ := hrel
    have hleft := Lib.hid (left_rd hrl)
    have hBw : w.heap.size ≤ wr.heap.size := hm.size
    obtain ⟨f, rfl⟩ : ∃ g, f = g + 1 := ⟨f - 1, by omega⟩
    match l', hrl, HQ, hf, hacc, hleft with
    | [], hrl, HQ, hf, hacc, hleft =>
      have hq : R = none := by rw [← HQ.out]; rfl
      have HQ2 := Lib.hid hq
      have c2 := ended_yes d s o wr hrl.done
      clear hq HQ hE hr
      go_wp2_with fail
      refine c2.mono ?_; rintro e w2 ⟨rfl, nq, rfl⟩
      go_wp2_with fail
      go_ret2
      exact readsT_none HQ2.out (hrl.below ⟨rfl, rfl, rfl, Nat.le_refl _, fun _ _ => rfl⟩) (hm.drewN nq)
    | c :: r, hrl, HQ, hf, hacc, hleft =>
      obtain ⟨a, ha, hR0, hsc, hdr⟩ := hrl.next
      subst hsc
      have c2 := ended_no d s a o wr hR0 ha
      have HDR := Lib.hid hdr
      clear hdr hr
      have b0 : (0 : Int) ≤ (a : Int) := by omega
      have b1 : (a : Int) < (s.size : Int) := by omega
      go_wp2_with fail
      refine c2.mono ?_; rintro e w2 ⟨rfl, nq, hw2⟩
      have hR2 : Rd d s a o w2 := by rw [hw2]; exact hR0.drewN nq
      have hm2 : Mut w.heap.size d w w2 := by rw [hw2]; exact hm.drewN nq
      have hB2 : Lib.IsBuilderF 52 5 w.heap.size w.heap.size (Lib.byteCells acc) w2 := by rw [hw2]; exact hB
      clear hw2 hR0 hm hB c2
      have q0 := hR2.c0
      have q1 := hR2.c1
      have q2 := hR2.f1
      go_wp2_with fail
      go_quiet (fail)
      have hR3 : RdL d s r o ((w2.drewN nq).setCell ⟨d, 1, none⟩ (.int .i64 ((a : Int) + 1))) := RdL.of (a + 1) _ (by omega) (by omega) HDR.out ((hR2.drewN nq).set1 _)
      have hm3 : Mut w.heap.size d w ((w2.drewN nq).setCell ⟨d, 1, none⟩ (.int .i64 ((a : Int) + 1))) := (hm2.drewN nq).setCell 1 _
      have hB3 : Lib.IsBuilderF 52 5 w.heap.size w.heap.size (Lib.byteCells acc) ((w2.drewN nq).setCell ⟨d, 1, none⟩ (.int .i64 ((a : Int) + 1))) := builder_mut hB2 hdlt (((Mut.refl _ d _).drewN nq).setCell 1 _)
      have hBw3 : w.heap.size ≤ ((w2.drewN nq).setCell ⟨d, 1, none⟩ (.int .i64 ((a : Int) + 1))).heap.size := hm3.size
      by_cases k1 : s[a] = 34
      · have t1 : ((s[a].toNat : Int) == 34) = true := u8_eq k1
        have HQ2 := Lib.hid (HQ.out.symm.trans (quoted_end k1))
        clear k1 HQ
        go_wp2_with fail
        refine (Tryz.Builder_String_any_k _ _ acc _ hB3 hBw3).mono ?_; rintro e w4 ⟨rfl, hB4, hb4, _⟩
        go_wp2_with fail
        go_ret2
        exact readsT_some HQ2.out (hR3.mut hdlt hb4) (hm3.trans (Mut.of_below hb4))
      · have t1 : ((s[a].toNat : Int) == 34) = false := u8_ne k1
        by_cases k2 : s[a] < 32
        · have t2 : decide ((s[a].toNat : Int) < 32) = true := by have := UInt8.lt_iff_toNat_lt.1 k2; simp at this; simp; omega
          have HQ2 := Lib.hid (HQ.out.symm.trans (quoted_low k1 k2))
          clear k1 HQ k2
          go_wp2_with fail
          go_ret2
          exact readsT_none HQ2.out hR3 hm3
        · have t2 : decide ((s[a].toNat : Int) < 32) = false := by
            have : ¬ s[a].toNat < 32 := fun h => k2 (UInt8.lt_iff_toNat_lt.2 (by simpa using h))
            simp; omega
          by_cases k3 : s[a] = 92
          · have t3 : ((s[a].toNat : Int) == 92) = true := u8_eq k3
            have hE3 := (hE.mut hd hm3)
            have c3 := escape_any d s r o B0 _ hR3 hE3 hd hs
            rcases hq : escape r with _ | ⟨x, r'⟩
            · have HQ2 := Lib.hid (HQ.out.symm.trans (quoted_wrong k1 k2 k3 hq))
              rw [hq] at c3
              clear k1 HQ k2 k3 hq
              go_wp2_with fail
              refine c3.mono ?_; rintro e w4 ⟨m, l4, rfl, hr4, hm4⟩
              go_wp2_with fail
              go_ret2
              exact readsT_none HQ2.out hr4 (hm3.trans (hm4.mono hBw3))
            · have HQ2 := Lib.hid (HQ.out.symm.trans (quoted_esc k1 k2 k3 hq))
              have hx := Lib.hid (escape_lt hq)
              have hlx := escape_len hq
              rw [hq] at c3
              clear k1 HQ k2 k3 hq
              go_wp2_with fail
              refine c3.mono ?_; rintro e w4 ⟨rfl, hr4, hm4⟩
              have hB4 := builder_mut hB3 hdlt hm4
              have hm4' := hm3.trans (hm4.mono hBw3)
              go_wp2_with fail
              refine (Builder_WriteRune_k w.heap.size w.heap.size (Lib.byteCells acc) x (by omega) (by have := hx.out; omega) _ hB4 (by rw [Lib.byteCells_length]; simp at hacc; omega) hm4'.size).mono ?_; rintro e w5 ⟨rfl, hB5, hb5, _⟩
              go_wp2_with fail
              go_roundw
              case rel =>
                refine ⟨f, r', acc ++ encodeRune x, hr4.mut hdlt hb5, hm4'.trans (Mut.of_below hb5), .inr (by rw [Lib.byteCells_append, Lib.byteCells_encodeRune]; exact hB5), Lib.hid HQ2.out.symm, by simp at hf; omega, ?_⟩
                have h4 := (Lib.runeCells_le x).2
                rw [Lib.runeCells_length] at h4
                rw [List.length_append]; simp at hacc; omega
              case measure =>
                rw [hleft.out, left_rd (hr4.mut hdlt hb5)]; simp; omega
          · have t3 : ((s[a].toNat : Int) == 92) = false := u8_ne k3
            have HQ2 := Lib.hid (HQ.out.symm.trans (quoted_byte k1 k2 k3))
            clear k1 HQ k2 k3
            go_wp2_with fail
            refine (Builder_WriteByte_k w.heap.size w.heap.size (Lib.byteCells acc) s[a].toNat _ hB3 (by rw [Lib.byteCells_length]; simp at hacc; omega) hBw3).mono ?_; rintro e w5 ⟨rfl, hB5, hb5, _⟩
            go_wp2_with fail
            go_roundw
            case rel => exact ⟨f, r, acc ++ [s[a]], hR3.mut hdlt hb5, hm3.trans (Mut.of_below hb5), .inr (by rw [Lib.byteCells_append]; exact hB5), Lib.hid HQ2.out.symm, by simp at hf; omega, by rw [List.length_append]; simp at hacc; simp; omega⟩
            case measure => rw [hleft.out, left_rd (hR3.mut hdlt hb5)]; simp
end Go.Proofs.YtfjdeacpdcnjpaaGreatDoor.V

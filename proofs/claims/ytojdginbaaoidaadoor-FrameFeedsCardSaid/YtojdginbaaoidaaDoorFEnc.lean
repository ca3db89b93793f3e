/- The contract of Encode, and of the comparison of two lists of texts. -/
import Derived.Test.YtojdginbaaoidaaDoorFFeed
import Derived.Test.YtojdginbaaoidaaDoorFBuild
namespace Go.Proofs.YtojdginbaaoidaaDoor.F
open Go.RowKit
open Go.Lib

/-- A builder in block b has these bytes. -/
abbrev Bld (B b : Nat) (l : List UInt8) (w : World) : Prop := Lib.IsBuilderF 43 5 B b (Lib.byteCells l) w
theorem bld_later {B b : Nat} {l : List UInt8} {w w' : World} (h : Bld B b l w) (hm : Below w.heap.size w w') : Bld B b l w' := by
  have one : ∀ p, Lib.BuilderAtF 43 5 B b p (Lib.byteCells l) w → Lib.BuilderAtF 43 5 B b p (Lib.byteCells l) w' := by
    rintro p ⟨hB, v, hb, hown, hne⟩
    have hlt : b < w.heap.size := (Array.getElem?_eq_some_iff.1 hb).1
    refine ⟨hB, v, by rw [hm.block b hlt]; exact hb, ⟨hown.1, ?_⟩, hne⟩
    rcases hown.2 with hn | ⟨g, cap, cur, fz, hv, hg, hgg, rest⟩
    · exact .inl hn
    · refine .inr ⟨g, cap, cur, fz, hv, hg, ?_, rest⟩
      rw [hm.block g (Array.getElem?_eq_some_iff.1 hgg).1]
      exact hgg
  exact h.elim (fun x => .inl (one _ x)) (fun x => .inr (one _ x))
theorem bld_string (B b : Nat) (l t : List UInt8) (w : World) (h : Bld B b l w) (hlen : l.length + t.length ≤ 140737488355328) (hBw : B ≤ w.heap.size) :
    Calls Tryd.prog 18 #[.pointer (some ⟨b, 0, none⟩), .string ⟨t.toArray⟩] w fun e w' => (∃ n, e = .returned (.tuple #[n, .nilIface])) ∧ Bld B b (l ++ t) w' ∧ Below B w w' :=
  (Builder_WriteString_k B b (Lib.byteCells l) ⟨t.toArray⟩ w h (by rw [Lib.byteCells_length]; exact hlen) hBw).mono fun e w' ⟨h1, h2, h3, _⟩ => ⟨⟨_, h1⟩, .inr (by rw [Lib.byteCells_append]; exact h2), h3⟩

/-- Texts that lie in a row. -/
def TextsAt (W : World) (a : Option Addr) (l : List (List UInt8)) : Prop := l = [] ∨ ∃ g off, a = some ⟨g, off, none⟩ ∧ ∀ j (h : j < l.length), W.cell? ⟨g, off + j, none⟩ = some (.string ⟨l[j].toArray⟩)
theorem TextsAt.later {W W' : World} {a : Option Addr} {l : List (List UInt8)} (h : TextsAt W a l) (hb : Below W.heap.size W W') : TextsAt W' a l := by
  rcases h with h | ⟨g, off, h1, h2⟩
  · exact .inl h
  · refine .inr ⟨g, off, h1, fun j hj => ?_⟩
    have h3 := h2 j hj
    exact (World.cell?_of_block (a := ⟨g, off + j, none⟩) (hb.block g (lt_of_cell h3))).trans h3
theorem owns_texts {w : World} {B : Nat} {a : Option Addr} {c : Nat} {l : List (List UInt8)} (h : w.ownsRow B 9 1 (.slice a l.length c) l.length (l.map strV)) : TextsAt w a l := by
  have h0 := h
  rcases h.2 with ⟨h1, h2⟩ | ⟨g, cap, cur, h1, _⟩
  · exact .inl (List.eq_nil_of_length_eq_zero h2)
  · cases h1
    refine .inr ⟨g, 0, rfl, fun j hj => ?_⟩
    have := h0.cells (g := g) rfl j (strV l[j]) (by simp [hj])
    rw [Addr.add_lit] at this
    rw [Nat.zero_add]
    simpa [strV] using this

/-- None is too long. -/
def okL : List (List UInt8) → Bool
  | [] => true
  | x :: r => decide (x.length ≤ 65536) && okL r
theorem okL_iff : ∀ (l : List (List UInt8)), okL l = true ↔ ∀ x ∈ l, x.length ≤ 65536
  | [] => by simp [okL]
  | x :: r => by simp [okL, okL_iff r]
theorem encL_at {l : List (List UInt8)} {i : Nat} (h : i < l.length) : encL (l.drop i) = headL l[i].length ++ (l[i] ++ encL (l.drop (i + 1))) := by
  rw [List.drop_eq_getElem_cons h]; rfl
theorem okL_at {l : List (List UInt8)} {i : Nat} (h : i < l.length) : okL (l.drop i) = (decide (l[i].length ≤ 65536) && okL (l.drop (i + 1))) := by
  rw [List.drop_eq_getElem_cons h]; rfl

/-- How Encode ends. -/
def Encodes (l : List (List UInt8)) (w : World) (e : Ending) (w' : World) : Prop :=
  e = .returned (.tuple #[.string ⟨(if okL l = true then encL l else []).toArray⟩, .int .i64 (if okL l = true then 0 else 31)]) ∧ Below w.heap.size w w'

set_option maxHeartbeats 2000000 in
theorem encode_any (a : Option Addr) (cap : Nat) (l : List (List UInt8)) (w : World) (hl : TextsAt w a l) (hlen : (encL l).length ≤ 140737488355328) (hn : l.length ≤ 1099511627776) (hE : EnvF w) :
    Calls Tryd.prog 10 #[.slice a l.length cap] w (Encodes l w) := by
  obtain ⟨T, hT⟩ : ∃ T, encL l = T := ⟨_, rfl⟩
  obtain ⟨K, hK⟩ : ∃ K, okL l = K := ⟨_, rfl⟩
  unfold Encodes
  rw [hT, hK]
  have HT := Lib.hid (show [] ++ encL (l.drop 0) = T from hT)
  have HK := Lib.hid (show okL (l.drop 0) = K from hK)
  rw [hT] at hlen
  have HL := Lib.hid hl
  have HE := Lib.hid hE
  clear hT hK hl hE
  have HB0 := Lib.hid ((Below.refl w.heap.size w).alloc (Nat.le_refl _) (.cells #[.pointer none, .slice none 0 0] 43))
  have HBD : Hid (Bld w.heap.size w.heap.size [] (w.alloc (.cells #[.pointer none, .slice none 0 0] 43))) := Lib.hid (.inl ⟨Nat.le_refl _, .slice none 0 0, heap_alloc_new _ _, World.ownsRowF_nil _ _ _ _, by simp [Value.ownBlock]⟩)
  go_enter Tryd.func10, Tryd.ntmps10
  generalize hlim : (65536 : Int) = lim
  have HLIM := Lib.hid hlim
  clear hlim
  go_wp2_with fail
  go_loopw [9] (fun iv wr => ∃ (i : Nat) (pre : List UInt8), iv = .int .i64 i ∧ i ≤ l.length ∧ Hid (pre ++ encL (l.drop i) = T) ∧ Hid (okL (l.drop i) = K) ∧ Hid (Bld w.heap.size w.heap.size pre wr) ∧ Hid (Below w.heap.size w wr)) (fun iv _ => l.length - (Go.RowKit.intOf iv).toNat)
  case atStart => exact ⟨0, [], rfl, by omega, HT, HK, HBD, HB0⟩
  case round =>
    obtain ⟨i, pre, rfl, hi, HI, HKI, HB, HW⟩ := hrel
    have hz := HW.out.size
    by_cases hlt : i < l.length
    · obtain ⟨g, off, rfl, hc⟩ := HL.out.resolve_left (fun h => by rw [h] at hlt; exact Nat.not_lt_zero _ hlt)
      have hci : wr.cell? ⟨g, off + i, none⟩ = _ := (HW.out.cell (p := ⟨g, off + i, none⟩) (Lib.lt_of_cell (hc i hlt))).trans (hc i hlt)
      have hI := HI.out
      have hKI := HKI.out
      rw [encL_at hlt] at hI
      rw [okL_at hlt] at hKI
      have hpl : pre.length + ((headL (l[i]).length).length + ((l[i]).length + (encL (l.drop (i + 1))).length)) = T.length := by rw [← hI]; simp only [List.length_append]
      have hsz : (⟨(l[i]).toArray⟩ : ByteArray).size = (l[i]).length := rfl
      have HI2 := Lib.hid (show (pre ++ headL (l[i]).length) ++ l[i] ++ encL (l.drop (i + 1)) = T by rw [← hI]; simp)
      generalize l[i] = x at hci hI hKI hpl hsz HI2
      have HC := Lib.hid hc
      clear hc hI HI
      by_cases hx : x.length ≤ 65536
      · have hx2 : decide ((x.length : Int) > lim) = false := by rw [← HLIM.out]; simp; omega
        have cH := headOf_any x.length wr hx (HE.out.later HW.out)
        have hKI2 : okL (l.drop (i + 1)) = K := by rw [← hKI]; simp [hx]
        have HKI2 := Lib.hid hKI2
        have hxl : x.length ≤ 140737488355328 := by omega
        clear hx hKI hKI2
        generalize headL x.length = H at cH hpl HI2
        generalize (encL (l.drop (i + 1))).length = rl at hpl
        go_wp2_with fail
        refine cH.mono ?_
        rintro e w2 ⟨rfl, hw2⟩
        have hw2' := HW.out.trans (hw2.mono hz)
        have hz2 := hw2.size
        have c1 := bld_string w.heap.size w.heap.size pre H w2 (bld_later HB.out hw2) (by omega) (by omega)
        have HW2 := Lib.hid hw2'
        clear cH hw2 hw2'
        go_wp2_with fail
        refine c1.mono ?_
        rintro e w3 ⟨⟨nv, rfl⟩, hb3, hw3⟩
        have hz3 := hw3.size
        have c2 := bld_string w.heap.size w.heap.size (pre ++ H) x w3 hb3 (by rw [List.length_append]; omega) (by omega)
        have HW3 := Lib.hid (HW2.out.trans hw3)
        clear c1 hb3 hw3
        go_wp2_with fail
        refine c2.mono ?_
        rintro e w4 ⟨⟨nv2, rfl⟩, hb4, hw4⟩
        have HB4 := Lib.hid hb4
        have HW4 := Lib.hid (HW3.out.trans hw4)
        clear c2 hb4 hw4
        go_wp2_with fail
        go_roundw
        case rel => exact ⟨i + 1, _, by go_num, by omega, HI2, HKI2, HB4, HW4⟩
        case measure => simp [Go.RowKit.intOf]; omega
      · have hx2 : decide ((x.length : Int) > lim) = true := by rw [← HLIM.out]; simp; omega
        have hK0 : K = false := by rw [← hKI]; simp [hx]
        subst hK0
        clear hx hKI hpl
        go_wp2_with fail
        go_ret2
        exact ⟨rfl, HW.out⟩
    · have hd : l.drop i = [] := List.drop_eq_nil_of_le (by omega)
      have hI := HI.out
      have hKI := HKI.out
      rw [hd] at hI hKI
      obtain rfl : true = K := hKI
      have hT : pre = T := by rw [← hI]; simp [encL]
      subst hT
      have cS := Tryd.Builder_String_any_k w.heap.size w.heap.size pre wr HB.out hz
      clear hd HI
      go_wp2_with fail
      refine cS.mono ?_
      rintro e w2 ⟨rfl, _, hb2, _⟩
      have HB2 := Lib.hid (HW.out.trans hb2)
      clear cS hb2
      go_wp2_with fail
      go_ret2
      exact ⟨rfl, HB2.out⟩

set_option maxHeartbeats 1000000 in
theorem strings_any (a a' : Option Addr) (c c' : Nat) (l l' : List (List UInt8)) (w : World) (hl : TextsAt w a l) (hl' : TextsAt w a' l') (hn : l.length ≤ 1099511627776) :
    Calls Tryd.prog 15 #[.slice a l.length c, .slice a' l'.length c'] w fun e w' => e = .returned (.bool (decide (l = l'))) ∧ ∃ k, w' = w.drewN k := by
  by_cases hlen : l.length = l'.length
  · obtain ⟨F, hF⟩ : ∃ F, decide (l = l') = F := ⟨_, rfl⟩
    have HF := Lib.hid (show decide (l.drop 0 = l'.drop 0) = F from hF)
    rw [hF, ← hlen]
    have HLEN := Lib.hid hlen
    have HL := Lib.hid hl
    have HL' := Lib.hid hl'
    clear hF hlen hl hl'
    go_enter Tryd.func15, Tryd.ntmps15
    go_wp2_with fail
    go_loopw [5] (fun iv wr => ∃ i : Nat, iv = .int .i64 i ∧ i ≤ l.length ∧ Hid (decide (l.drop i = l'.drop i) = F) ∧ ∃ k, wr = w.drewN k) (fun iv _ => l.length - (Go.RowKit.intOf iv).toNat)
    case atStart => exact ⟨0, rfl, by omega, HF, 0, rfl⟩
    case round =>
      obtain ⟨i, rfl, hi, HI, k, rfl⟩ := hrel
      by_cases hlt : i < l.length
      · have hlt' : i < l'.length := by rw [← HLEN.out]; exact hlt
        have hI := HI.out
        rw [List.drop_eq_getElem_cons hlt, List.drop_eq_getElem_cons hlt'] at hI
        obtain ⟨g, off, rfl, hc⟩ := HL.out.resolve_left (fun h => by rw [h] at hlt; exact Nat.not_lt_zero _ hlt)
        obtain ⟨g', off', rfl, hc'⟩ := HL'.out.resolve_left (fun h => by rw [h] at hlt'; exact Nat.not_lt_zero _ hlt')
        have hci := hc i hlt
        have hci' := hc' i hlt'
        have hdc : ∀ (x y : List UInt8) (r s : List (List UInt8)), decide (x :: r = y :: s) = (decide (x = y) && decide (r = s)) := by
          intro x y r s
          by_cases h1 : x = y <;> by_cases h2 : r = s <;> simp [h1, h2]
        rw [hdc] at hI
        have HI1 := Lib.hid hI
        clear hc hc' hdc hI
        by_cases hx : l[i] = l'[i]
        · have HI2 := Lib.hid (show decide (l.drop (i + 1) = l'.drop (i + 1)) = F by rw [← HI1.out, decide_eq_true hx, Bool.true_and])
          rw [← hx] at hci'
          clear hx HI1
          generalize l[i] = x at hci hci'
          go_wp2_with fail
          go_quiet (fail)
          go_wp2_with fail
          go_roundw
          case rel => exact ⟨i + 1, by go_num, by omega, HI2, k + nq, by simp⟩
          case measure => simp [Go.RowKit.intOf]; omega
        · have hF0 : F = false := by rw [← HI1.out, decide_eq_false hx, Bool.false_and]
          subst hF0
          clear HI1
          generalize l[i] = x at hci hx
          generalize l'[i] = y at hci' hx
          have hx2 : (x == y) = false := beq_eq_false_iff_ne.2 hx
          go_wp2_with fail
          go_quiet (fail)
          go_wp2_with fail
          go_ret
          exact ⟨rfl, k + nq, by simp⟩
      · have hI := HI.out
        rw [List.drop_eq_nil_of_le (by omega), List.drop_eq_nil_of_le (by have := HLEN.out; omega)] at hI
        obtain rfl : true = F := by rw [← hI]; simp
        clear hI
        go_wp2_with fail
        go_ret
        exact ⟨rfl, k, rfl⟩
  · have hne : decide (l = l') = false := decide_eq_false (fun h => hlen (by rw [h]))
    rw [hne]
    clear hl hl' hne
    go_enter Tryd.func15, Tryd.ntmps15
    go_wp2_with fail
    go_ret
    exact ⟨rfl, 0, rfl⟩
end Go.Proofs.YtojdginbaaoidaaDoor.F

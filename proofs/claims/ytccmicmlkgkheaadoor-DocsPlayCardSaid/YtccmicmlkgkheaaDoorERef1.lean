/- The contracts of the document's own ends, and Apply, of layer 6. -/
import Derived.Test.YtccmicmlkgkheaaDoorEApply
import Derived.Test.YtccmicmlkgkheaaDoorLRef
namespace Go.Proofs.YtccmicmlkgkheaaDoor.E
open Go.RowKit
open Go.Lib hiding intOf
open Go.Proofs.YtccmicmlkgkheaaDoor.U Go.Proofs.YtccmicmlkgkheaaDoor.L

theorem refOff_is (s : ByteArray) (l u a c : Int) (w : World) (hs : s.size ≤ 1000000) (ho : offL s l u = (a, c)) :
    Calls Tryd.prog 50 #[.string s, .agg #[.int .i64 l, .int .i64 u]] w fun e w' => e = .returned (.tuple #[.int .i64 a, .int .i64 c]) ∧ Below w.heap.size w w' := by
  have := refOff_any s l u w hs
  rw [ho] at this
  exact this
/-- The offsets of an edit's places, or the error, as the document tells them. -/
def endsL (s : ByteArray) (e : EdP) : Int × Int × Int :=
  if okB e.t = false then (0, 0, 11)
  else if (offL s e.fl e.fu).2 ≠ 0 ∨ (offL s e.tl e.tu).2 ≠ 0 then (0, 0, 51)
  else if (offL s e.tl e.tu).1 < (offL s e.fl e.fu).1 then (0, 0, 61)
  else ((offL s e.fl e.fu).1, (offL s e.tl e.tu).1, 0)
theorem ends_or (s : ByteArray) (e : EdP) :
    (okB e.t = false ∧ endsL s e = (0, 0, 11)) ∨
    (okB e.t = true ∧ ∃ a b c d : Int, offL s e.fl e.fu = (a, c) ∧ offL s e.tl e.tu = (b, d) ∧ ((c = 51 ∧ d = 51) ∨ (c = 51 ∧ d = 0) ∨ (c = 0 ∧ d = 51)) ∧ endsL s e = (0, 0, 51)) ∨
    (okB e.t = true ∧ ∃ a b : Nat, offL s e.fl e.fu = ((a : Int), 0) ∧ offL s e.tl e.tu = ((b : Int), 0) ∧ a ≤ s.size ∧ b ≤ s.size ∧ ((b < a ∧ endsL s e = (0, 0, 61)) ∨ (a ≤ b ∧ endsL s e = ((a : Int), (b : Int), 0)))) := by
  unfold endsL
  cases ht : okB e.t with
  | false => exact .inl ⟨rfl, by simp⟩
  | true =>
    right
    rcases off_or' s e.fl e.fu with ⟨a, ha, haz, _⟩ | ha
    · rcases off_or' s e.tl e.tu with ⟨b, hb, hbz, _⟩ | hb
      · right
        refine ⟨rfl, a, b, ha, hb, haz, hbz, ?_⟩
        rw [ha, hb]
        simp only [Bool.true_eq_false, if_false, ne_eq, not_true_eq_false, or_self]
        by_cases h1 : b < a
        · exact .inl ⟨h1, by rw [if_pos (by omega)]⟩
        · exact .inr ⟨by omega, by rw [if_neg (by omega)]⟩
      · left
        exact ⟨rfl, _, _, _, _, ha, hb, .inr (.inr ⟨rfl, rfl⟩), by rw [hb]; simp⟩
    · left
      rcases off_or' s e.tl e.tu with ⟨b, hb, hbz, _⟩ | hb
      · exact ⟨rfl, _, _, _, _, ha, hb, .inr (.inl ⟨rfl, rfl⟩), by rw [ha]; simp⟩
      · exact ⟨rfl, _, _, _, _, ha, hb, .inl ⟨rfl, rfl⟩, by rw [ha]; simp⟩
theorem ends_step {x : ByteArray} {e : EdP} (hok : okB x = true) :
    (∃ c : Int, (c == 0) = false ∧ endsL x e = (0, 0, c) ∧ step x e = (⟨#[]⟩, c)) ∨
    (∃ a b : Nat, a ≤ b ∧ b ≤ x.size ∧ 16384 < a + e.t.size + (x.size - b) ∧ endsL x e = ((a : Int), (b : Int), 0) ∧ step x e = (⟨#[]⟩, 73)) ∨
    (∃ a b : Nat, a ≤ b ∧ b ≤ x.size ∧ a + e.t.size + (x.size - b) ≤ 16384 ∧ (put x a b e.t).size ≤ 16384 ∧ okB (put x a b e.t) = true ∧ endsL x e = ((a : Int), (b : Int), 0) ∧ step x e = (put x a b e.t, 0) ∧ offL x e.fl e.fu = ((a : Int), 0) ∧ offL x e.tl e.tu = ((b : Int), 0)) := by
  unfold endsL
  rcases step_or x e with ⟨h1, h2⟩ | ⟨h1, h3, h2⟩ | ⟨a, b, h1, ha, hb, haz, hbz, ⟨h3, h2⟩ | ⟨h3, h4, h2⟩ | ⟨h3, h4, h2⟩⟩
  · exact .inl ⟨11, rfl, by rw [if_pos h1], h2⟩
  · refine .inl ⟨51, rfl, ?_, h2⟩
    rw [if_neg (by rw [h1]; simp), if_pos]
    rcases h3 with h3 | ⟨_, h3⟩
    · exact .inl (by rw [h3]; simp)
    · exact .inr (by rw [h3]; simp)
  · refine .inl ⟨61, rfl, ?_, h2⟩
    rw [if_neg (by rw [h1]; simp), if_neg (by rw [ha, hb]; simp), if_pos (by rw [ha, hb]; simp only; omega)]
  · refine .inr (.inl ⟨a, b, h3, hbz, by rw [put_size (by omega) hbz] at h4; exact h4, ?_, h2⟩)
    rw [if_neg (by rw [h1]; simp), if_neg (by rw [ha, hb]; simp), if_neg (by rw [ha, hb]; simp only; omega), ha, hb]
  · refine .inr (.inr ⟨a, b, h3, hbz, by rw [put_size (by omega) hbz] at h4; exact h4, h4, put_ok hok h1 (offL_bnd hok ha) (offL_bnd hok hb), ?_, h2, ha, hb⟩)
    rw [if_neg (by rw [h1]; simp), if_neg (by rw [ha, hb]; simp), if_neg (by rw [ha, hb]; simp only; omega), ha, hb]

set_option maxHeartbeats 4000000 in
set_option maxRecDepth 100000 in
theorem ends_any (s : ByteArray) (e : EdP) (w : World) (hs : s.size ≤ 1000000) (ht : e.t.size ≤ 1000000) :
    Calls Tryd.prog 42 #[.string s, .agg #[.int .i64 e.fl, .int .i64 e.fu, .int .i64 e.tl, .int .i64 e.tu, .string e.t]] w (Three (endsL s e) w) := by
  obtain ⟨W, hW⟩ : ∃ W, w.alloc (.cells #[.int .i64 e.fl, .int .i64 e.fu, .int .i64 e.tl, .int .i64 e.tu, .string e.t] 56) = W := ⟨_, rfl⟩
  have hbw : Below w.heap.size w W := by rw [← hW]; exact (Below.refl _ _).alloc (Nat.le_refl _) _
  have HBX := Lib.hid (show W.heap[w.heap.size]? = some (.cells #[.int .i64 e.fl, .int .i64 e.fu, .int .i64 e.tl, .int .i64 e.tu, .string e.t] 56 (0, 0)) by rw [← hW]; exact heap_alloc_new _ _)
  have HBW := Lib.hid hbw
  have cR := ref_right e.t W ht
  obtain ⟨p0, p1, p2, p3, p4⟩ := five_cells HBX.out
  clear hbw
  rcases ends_or s e with ⟨h1, h⟩ | ⟨h1, a, b, c, d, h2, h3, hcd, h⟩ | ⟨h1, a, b, h2, h3, haz, hbz, h5⟩
  · rw [h]
    rw [h1] at cR
    clear h h1
    obtain ⟨fl, fu, tl, tu, t⟩ := e
    simp only at cR p0 p1 p2 p3 p4 HBX hW ⊢
    go_enter Tryd.func42, Tryd.ntmps42
    go_wp2_with fail
    refine cR.mono ?_
    rintro e w1 ⟨rfl, hb1⟩
    go_wp2_with fail
    go_ret3
    exact three' rfl (next HBW.out hb1)
  · rw [h]
    rw [h1] at cR
    have HO1 := Lib.hid h2
    have HO2 := Lib.hid h3
    clear h h1 h2 h3
    obtain ⟨fl, fu, tl, tu, t⟩ := e
    simp only at cR p0 p1 p2 p3 p4 HBX hW HO1 HO2 ⊢
    go_enter Tryd.func42, Tryd.ntmps42
    go_wp2_with fail
    refine cR.mono ?_
    rintro e w1 ⟨rfl, hb1⟩
    have HB1 := Lib.hid hb1
    clear p0 p1 p2 p3 p4
    obtain ⟨p0, p1, p2, p3, p4⟩ := ed_cells HBX.out hb1
    have cO := refOff_is s fl fu a c w1 hs HO1.out
    clear hb1 cR hW
    go_wp2_with fail
    refine cO.mono ?_
    rintro e w2 ⟨rfl, hb2⟩
    have HB2 := Lib.hid (next HB1.out hb2)
    clear p0 p1 p2 p3 p4
    obtain ⟨p0, p1, p2, p3, p4⟩ := ed_cells HBX.out HB2.out
    clear hb2 cO
    have cO := refOff_is s tl tu b d w2 hs HO2.out
    go_wp2_with fail
    refine cO.mono ?_
    rintro e w3 ⟨rfl, hb3⟩
    have HB3 := Lib.hid (next HBW.out (next HB2.out hb3))
    clear p0 p1 p2 p3 p4 hb3 cO
    rcases hcd with ⟨rfl, rfl⟩ | ⟨rfl, rfl⟩ | ⟨rfl, rfl⟩
    all_goals
      go_wp2_with fail
      go_ret3
      exact three' rfl HB3.out
  · rw [h1] at cR
    have HO1 := Lib.hid h2
    have HO2 := Lib.hid h3
    obtain ⟨R, hR⟩ : ∃ R, endsL s e = R := ⟨_, rfl⟩
    rw [hR] at h5 ⊢
    clear h1 h2 h3 hR
    obtain ⟨fl, fu, tl, tu, t⟩ := e
    simp only at cR p0 p1 p2 p3 p4 HBX hW HO1 HO2 ⊢
    go_enter Tryd.func42, Tryd.ntmps42
    go_wp2_with fail
    refine cR.mono ?_
    rintro e w1 ⟨rfl, hb1⟩
    have HB1 := Lib.hid hb1
    clear p0 p1 p2 p3 p4
    obtain ⟨p0, p1, p2, p3, p4⟩ := ed_cells HBX.out hb1
    have cO := refOff_is s fl fu a 0 w1 hs HO1.out
    clear hb1 cR hW
    go_wp2_with fail
    refine cO.mono ?_
    rintro e w2 ⟨rfl, hb2⟩
    have HB2 := Lib.hid (next HB1.out hb2)
    clear p0 p1 p2 p3 p4
    obtain ⟨p0, p1, p2, p3, p4⟩ := ed_cells HBX.out HB2.out
    clear hb2 cO
    have cO := refOff_is s tl tu b 0 w2 hs HO2.out
    go_wp2_with fail
    refine cO.mono ?_
    rintro e w3 ⟨rfl, hb3⟩
    have HB3 := Lib.hid (next HBW.out (next HB2.out hb3))
    clear p0 p1 p2 p3 p4 hb3 cO
    rcases h5 with ⟨h5, rfl⟩ | ⟨h5, rfl⟩
    all_goals
      go_wp2_with fail
      go_ret3
      exact three' rfl HB3.out

/-- How long edits' texts are together. -/
def sumT : List EdP → Nat
  | [] => 0
  | e :: r => e.t.size + sumT r
theorem sumT_mem : ∀ {l : List EdP} {e : EdP}, e ∈ l → e.t.size ≤ sumT l
  | x :: r, e, h => by
    simp only [sumT]
    rcases List.mem_cons.1 h with rfl | h
    · omega
    · have := sumT_mem h; omega
theorem sumT_app : ∀ (a b : List EdP), sumT (a ++ b) = sumT a + sumT b
  | [], b => by simp [sumT]
  | e :: r, b => by simp only [List.cons_append, sumT, sumT_app r b]; omega
theorem sumT_take {l : List EdP} {i : Nat} (h : i < l.length) : sumT (l.take (i + 1)) = sumT (l.take i) + l[i].t.size := by
  rw [List.take_succ_eq_append_getElem h, sumT_app]; simp [sumT]
theorem sumT_le (l : List EdP) (i : Nat) : sumT (l.take i) ≤ sumT l := by
  have h := sumT_app (l.take i) (l.drop i)
  rw [List.take_append_drop] at h; omega
set_option maxHeartbeats 4000000 in
set_option maxRecDepth 100000 in
theorem refApply_any (l : List EdP) (s : ByteArray) (v : Value) (w : World) (hs : s.size ≤ 1000000) (ht : ∀ e ∈ l, e.t.size ≤ 1000000) (hl : l.length ≤ 1000000) (hv : EdsIn w l v) :
    Calls Tryd.prog 34 #[.string s, v] w (TwoSI (applyL s l) w) := by
  have cR := ref_right s w (by omega)
  obtain ⟨a0, c0, rfl, hE⟩ := hv
  unfold applyL
  cases hok : okB s
  · rw [hok] at cR
    clear hok hE ht
    simp only [Bool.false_eq_true, if_false]
    generalize l.length = n at hl ⊢
    go_enter Tryd.func34, Tryd.ntmps34
    go_wp2_with fail
    refine cR.mono ?_
    rintro e w1 ⟨rfl, hb⟩
    go_wp2_with fail
    go_ret2
    exact twoSI rfl hb
  · rw [hok] at cR
    simp only [if_true]
    have HE := Lib.hid hE
    have HOK := Lib.hid hok
    have HTS := Lib.hid ht
    obtain ⟨R, hR⟩ : ∃ R, steps s l = R := ⟨_, rfl⟩
    have HR : Hid (steps s (l.drop 0) = R) := Lib.hid hR
    obtain ⟨n, hn⟩ : ∃ n, l.length = n := ⟨_, rfl⟩
    have HN := Lib.hid hn
    rw [hn] at hl
    rw [hR, hn]
    clear hok hE hR hn ht
    go_enter Tryd.func34, Tryd.ntmps34
    go_wp2_with fail
    refine cR.mono ?_
    rintro e w1 ⟨rfl, hb⟩
    have HB := Lib.hid hb
    clear hb cR
    go_wp2_with fail
    go_loopw [0, 7] (fun sv iv wr => ∃ (i : Nat) (x : ByteArray), sv = .string x ∧ iv = .int .i64 i ∧ i ≤ n ∧ x.size ≤ 1000000 ∧ Hid (okB x = true) ∧ Hid (steps x (l.drop i) = R) ∧ Hid (Below w.heap.size w wr)) (fun _ iv _ => n - (intOf iv).toNat)
    case atStart => exact ⟨0, s, rfl, rfl, Nat.zero_le _, hs, HOK, HR, HB⟩
    case round =>
      obtain ⟨i, x, rfl, rfl, hi, hx, HX, HS, HL⟩ := hrel
      by_cases hlt : i < n
      · have hil : i < l.length := by rw [HN.out]; exact hlt
        obtain ⟨g, off, rfl, hg, hc⟩ := HE.out.resolve_left (fun h => by rw [h] at hil; exact Nat.not_lt_zero _ hil)
        obtain ⟨p0, p1, p2, p3, p4⟩ := edit_at i hc hil
        replace p0 := (HL.out.cell (p := ⟨g, off + i * 5, none⟩) hg).trans p0
        replace p1 := (HL.out.cell (p := ⟨g, off + i * 5 + 1, none⟩) hg).trans p1
        replace p2 := (HL.out.cell (p := ⟨g, off + i * 5 + 2, none⟩) hg).trans p2
        replace p3 := (HL.out.cell (p := ⟨g, off + i * 5 + 3, none⟩) hg).trans p3
        replace p4 := (HL.out.cell (p := ⟨g, off + i * 5 + 4, none⟩) hg).trans p4
        have htz : l[i].t.size ≤ 1000000 := HTS.out _ (List.getElem_mem hil)
        have hst : steps x (l[i] :: l.drop (i + 1)) = R := by rw [← List.drop_eq_getElem_cons hil]; exact HS.out
        have cS := ends_any x l[i] wr hx htz
        rcases ends_step (x := x) (e := l[i]) HX.out with ⟨c, hcz, hsp, hse⟩ | ⟨a, b, hab, hbx, hful, hsp, hse⟩ | ⟨a, b, hab, hbx, hfit, hpz, hpok, hsp, hse, _, _⟩
        · have HRR : Hid (R = (⟨#[]⟩, c)) := Lib.hid (by rw [← hst, steps_stop (by rw [hse]; simpa using hcz), hse])
          rw [hsp] at cS
          clear hst hse hsp HS hc
          generalize l[i] = E at p0 p1 p2 p3 p4 cS htz
          obtain ⟨fl, fu, tl, tu, t⟩ := E
          simp only at p0 p1 p2 p3 p4 cS htz
          go_wp2_with fail
          refine cS.mono ?_
          rintro e w2 ⟨rfl, hb2⟩
          have HB2 := Lib.hid (next HL.out hb2)
          clear hb2 cS
          go_wp2_with fail
          go_ret2
          exact twoSI HRR.out HB2.out
        · have HRR : Hid (R = (⟨#[]⟩, 73)) := Lib.hid (by rw [← hst, steps_stop (by rw [hse]; simp), hse])
          rw [hsp] at cS
          clear hst hse hsp HS
          generalize l[i] = E at p0 p1 p2 p3 p4 cS htz hful
          obtain ⟨fl, fu, tl, tu, t⟩ := E
          simp only at p0 p1 p2 p3 p4 cS htz hful
          go_wp2_with fail
          refine cS.mono ?_
          rintro e w2 ⟨rfl, hb2⟩
          have HB2 := Lib.hid (next HL.out hb2)
          have q4 : w2.cell? ⟨g, off + i * 5 + 4, none⟩ = some (.string t) := (hb2.cell (p := ⟨g, off + i * 5 + 4, none⟩) (by have := HL.out.size; simp only; omega)).trans p4
          clear hb2 cS
          have hax : a ≤ x.size := by omega
          go_wp2_with fail
          go_quiet (fail)
          go_wp2_with fail
          go_ret2
          exact twoSI HRR.out (next HB2.out (L.below_drewN _ _))
        · have HRR : Hid (steps (put x a b l[i].t) (l.drop (i + 1)) = R) := Lib.hid (by rw [← hst, steps_on (by rw [hse]), hse])
          have HPOK := Lib.hid hpok
          rw [hsp] at cS
          clear hst hse hsp HS hpok
          generalize l[i] = E at p0 p1 p2 p3 p4 cS htz HRR hpz HPOK hfit
          obtain ⟨fl, fu, tl, tu, t⟩ := E
          simp only at p0 p1 p2 p3 p4 cS htz HRR hpz HPOK hfit
          go_wp2_with fail
          refine cS.mono ?_
          rintro e w2 ⟨rfl, hb2⟩
          have HB2 := Lib.hid (next HL.out hb2)
          have q4 : w2.cell? ⟨g, off + i * 5 + 4, none⟩ = some (.string t) := (hb2.cell (p := ⟨g, off + i * 5 + 4, none⟩) (by have := HL.out.size; simp only; omega)).trans p4
          clear hb2 cS
          have hax : a ≤ x.size := by omega
          go_wp2_with fail
          go_quiet (fail)
          go_wp2_with fail
          go_roundw
          case rel => exact ⟨i + 1, put x a b t, rfl, by go_num, by omega, by omega, HPOK, HRR, Lib.hid (next HB2.out (below_drewN _ _))⟩
          case measure => simp [intOf]; omega
      · obtain rfl : i = n := by omega
        have HRR : Hid (R = (x, 0)) := Lib.hid (by
          have := HS.out
          rw [List.drop_of_length_le (by rw [HN.out]; exact Nat.le_refl _)] at this
          exact this.symm)
        go_wp2_with fail
        go_ret2
        exact twoSI HRR.out HL.out
end Go.Proofs.YtccmicmlkgkheaaDoor.E

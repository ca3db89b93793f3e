/- The contract of Apply: what edits, one by one, make of a text, or the error. -/
import Derived.Test.YtccmicmlkgkheaaDoorESpan
import Derived.BigRegion
import Derived.Deep.QuietTactic
import Derived.BigQuiet
namespace Go.Proofs.YtccmicmlkgkheaaDoor.E
open Go.RowKit
open Go.Lib hiding intOf
open Go.Proofs.YtccmicmlkgkheaaDoor.U Go.Proofs.YtccmicmlkgkheaaDoor.L

/-- The edit at a place: its cells. -/
theorem edit_at {W : World} {l : List EdP} {g off : Nat} (i : Nat) (hc : EdsAt W g off l) (hi : i < l.length) :
    W.cell? ⟨g, off + i * 5, none⟩ = some (.int .i64 l[i].fl) ∧ W.cell? ⟨g, off + i * 5 + 1, none⟩ = some (.int .i64 l[i].fu) ∧ W.cell? ⟨g, off + i * 5 + 2, none⟩ = some (.int .i64 l[i].tl) ∧
      W.cell? ⟨g, off + i * 5 + 3, none⟩ = some (.int .i64 l[i].tu) ∧ W.cell? ⟨g, off + i * 5 + 4, none⟩ = some (.string l[i].t) := by
  have key : ∀ (l : List EdP) (i j : Nat) (hi : i < l.length), j < 5 → (edCs l)[i * 5 + j]? = (edC l[i])[j]? := by
    intro l
    induction l with
    | nil => intro i j hi; simp at hi
    | cons e r ih =>
      intro i j hi hj
      cases i with
      | zero => simp only [edCs, Nat.zero_mul, Nat.zero_add, List.getElem_cons_zero]; rw [List.getElem?_append_left (by simp [edC]; omega)]
      | succ i =>
        simp only [edCs, List.getElem_cons_succ]
        rw [List.getElem?_append_right (by simp [edC]; omega), show (i + 1) * 5 + j - (edC e).length = i * 5 + j by simp [edC]; omega]
        exact ih i j (by simpa using hi) hj
  refine ⟨hc (i * 5) _ ?_, ?_, ?_, ?_, ?_⟩
  · have := key l i 0 hi (by omega); rw [Nat.add_zero] at this; rw [this]; rfl
  · exact hc (i * 5 + 1) _ (by rw [key l i 1 hi (by omega)]; rfl)
  · exact hc (i * 5 + 2) _ (by rw [key l i 2 hi (by omega)]; rfl)
  · exact hc (i * 5 + 3) _ (by rw [key l i 3 hi (by omega)]; rfl)
  · exact hc (i * 5 + 4) _ (by rw [key l i 4 hi (by omega)]; rfl)

theorem span_step {x : ByteArray} {e : EdP} (hok : okB x = true) :
    (∃ c : Int, (c == 0) = false ∧ spanL x e = (0, 0, c) ∧ step x e = (⟨#[]⟩, c)) ∨
    (∃ a b : Nat, a ≤ b ∧ b ≤ x.size ∧ (put x a b e.t).size ≤ 16384 ∧ okB (put x a b e.t) = true ∧ spanL x e = ((a : Int), (b : Int), 0) ∧ step x e = (put x a b e.t, 0) ∧ offL x e.fl e.fu = ((a : Int), 0) ∧ offL x e.tl e.tu = ((b : Int), 0)) := by
  unfold spanL
  rw [if_neg (by rw [hok]; simp)]
  rcases step_or x e with ⟨h1, h2⟩ | ⟨h1, h3, h2⟩ | ⟨a, b, h1, ha, hb, haz, hbz, ⟨h3, h2⟩ | ⟨h3, h4, h2⟩ | ⟨h3, h4, h2⟩⟩
  · exact .inl ⟨11, rfl, by rw [if_pos h1], h2⟩
  · refine .inl ⟨51, rfl, ?_, h2⟩
    rw [if_neg (by rw [h1]; simp), if_pos]
    rcases h3 with h3 | ⟨_, h3⟩
    · exact .inl (by rw [h3]; simp)
    · exact .inr (by rw [h3]; simp)
  · refine .inl ⟨61, rfl, ?_, h2⟩
    rw [if_neg (by rw [h1]; simp), if_neg (by rw [ha, hb]; simp), if_pos (by rw [ha, hb]; simp only; omega)]
  · refine .inl ⟨73, rfl, ?_, h2⟩
    rw [if_neg (by rw [h1]; simp), if_neg (by rw [ha, hb]; simp), if_neg (by rw [ha, hb]; simp only; omega), if_pos (by rw [ha, hb]; exact h4)]
  · refine .inr ⟨a, b, h3, hbz, h4, put_ok hok h1 (offL_bnd hok ha) (offL_bnd hok hb), ?_, h2, ha, hb⟩
    rw [if_neg (by rw [h1]; simp), if_neg (by rw [ha, hb]; simp), if_neg (by rw [ha, hb]; simp only; omega), if_neg (by rw [ha, hb]; simp only [Int.toNat_natCast]; omega), ha, hb]

set_option maxHeartbeats 4000000 in
set_option maxRecDepth 100000 in
theorem apply_any (l : List EdP) (s : ByteArray) (v : Value) (w : World) (hs : s.size ≤ 1099511627776) (hl : l.length ≤ 1099511627776) (ht : ∀ e ∈ l, e.t.size ≤ 1099511627776) (hv : EdsIn w l v) (hT : Tabs w) :
    Calls Tryd.prog 29 #[.string s, v] w (TwoSI (applyL s l) w) := by
  have cR := right_any s w hs hT
  obtain ⟨a0, c0, rfl, hE⟩ := hv
  unfold applyL
  cases hok : okB s
  · rw [hok] at cR
    clear hok hT hE
    simp only [Bool.false_eq_true, if_false]
    generalize l.length = n at hl ⊢
    go_enter Tryd.func29, Tryd.ntmps29
    go_wp2_with fail
    refine cR.mono ?_
    rintro e w1 ⟨rfl, hb⟩
    go_wp2_with fail
    go_ret2
    exact twoSI rfl hb
  · rw [hok] at cR
    simp only [if_true]
    have HE := Lib.hid hE
    have HT := Lib.hid hT
    have HOK := Lib.hid hok
    have HTS := Lib.hid ht
    obtain ⟨R, hR⟩ : ∃ R, steps s l = R := ⟨_, rfl⟩
    have HR : Hid (steps s (l.drop 0) = R) := Lib.hid hR
    obtain ⟨n, hn⟩ : ∃ n, l.length = n := ⟨_, rfl⟩
    have HN := Lib.hid hn
    rw [hn] at hl
    rw [hR, hn]
    clear hok hT hE hR hn ht
    go_enter Tryd.func29, Tryd.ntmps29
    go_wp2_with fail
    refine cR.mono ?_
    rintro e w1 ⟨rfl, hb⟩
    have HB := Lib.hid hb
    clear hb cR
    go_wp2_with fail
    go_loopw [0, 16] (fun sv iv wr => ∃ (i : Nat) (x : ByteArray), sv = .string x ∧ iv = .int .i64 i ∧ i ≤ n ∧ x.size ≤ 1099511627776 ∧ Hid (okB x = true) ∧ Hid (steps x (l.drop i) = R) ∧ Hid (Below w.heap.size w wr)) (fun _ iv _ => n - (intOf iv).toNat)
    case atStart => exact ⟨0, s, rfl, rfl, Nat.zero_le _, hs, HOK, HR, HB⟩
    case round =>
      obtain ⟨i, x, rfl, rfl, hi, hx, HX, HS, HL⟩ := hrel
      by_cases hlt : i < n
      · have hil : i < l.length := by rw [HN.out]; exact hlt
        obtain ⟨g, off, rfl, hg, hc⟩ := HE.out.resolve_left (fun h => by rw [h] at hil; exact Nat.not_lt_zero _ hil)
        obtain ⟨p0, p1, p2, p3, p4⟩ := edit_at i hc hil
        replace p0 := (HL.out.cell (p := ⟨g, off + i * 5, none⟩) hg).trans p0
        replace p1 := (HL.out.cell (p := ⟨g, off + i * 5 + 1, none⟩) hg).trans p1
        replace p2 := (HL.out.cell (p := ⟨g, off + i * 5 + 2, none⟩) hg).trans p2
        replace p3 := (HL.out.cell (p := ⟨g, off + i * 5 + 3, none⟩) hg).trans p3
        replace p4 := (HL.out.cell (p := ⟨g, off + i * 5 + 4, none⟩) hg).trans p4
        have htz := HTS.out l[i] (List.getElem_mem hil)
        have hst : steps x (l[i] :: l.drop (i + 1)) = R := by rw [← List.drop_eq_getElem_cons hil]; exact HS.out
        obtain ⟨W1, hW1⟩ : ∃ W1, wr.alloc (.cells #[.int .i64 l[i].fl, .int .i64 l[i].fu, .int .i64 l[i].tl, .int .i64 l[i].tu, .string l[i].t] 56) = W1 := ⟨_, rfl⟩
        have hp1 : W1.heap[wr.heap.size]? = some (.cells #[.int .i64 l[i].fl, .int .i64 l[i].fu, .int .i64 l[i].tl, .int .i64 l[i].tu, .string l[i].t] 56 (0, 0)) := by rw [← hW1]; exact heap_alloc_new wr _
        have hbW : Below w.heap.size w W1 := by rw [← hW1]; exact HL.out.alloc HL.out.size _
        have cS := span_any x l[i] W1 hx htz (tabs_later HT.out hbW)
        obtain ⟨r0, r1, r2, r3, r4⟩ := five_cells hp1
        have HP1 := Lib.hid hp1
        have HBW := Lib.hid hbW
        rcases span_step (x := x) (e := l[i]) HX.out with ⟨c, hcz, hsp, hse⟩ | ⟨a, b, hab, hbx, hpz, hpok, hsp, hse, _, _⟩
        · have HRR : Hid (R = (⟨#[]⟩, c)) := Lib.hid (by rw [← hst, steps_stop (by rw [hse]; simpa using hcz), hse])
          rw [hsp] at cS
          clear hst hse hsp HS hp1 hbW hc HTS
          generalize l[i] = E at p0 p1 p2 p3 p4 r0 r1 r2 r3 r4 cS htz HP1 hW1
          obtain ⟨fl, fu, tl, tu, t⟩ := E
          simp only at p0 p1 p2 p3 p4 r0 r1 r2 r3 r4 cS htz HP1 hW1
          go_wp2_with fail
          refine cS.mono ?_
          rintro e w2 ⟨rfl, hb2⟩
          have HB2 := Lib.hid (next HBW.out hb2)
          clear hb2 cS
          go_wp2_with fail
          go_ret2
          exact twoSI HRR.out HB2.out
        · have HRR : Hid (steps (put x a b l[i].t) (l.drop (i + 1)) = R) := Lib.hid (by rw [← hst, steps_on (by rw [hse]), hse])
          have HPOK := Lib.hid hpok
          rw [hsp] at cS
          clear hst hse hsp HS hp1 hbW hc HTS hpok
          generalize l[i] = E at p0 p1 p2 p3 p4 r0 r1 r2 r3 r4 cS htz HP1 hW1 HRR hpz HPOK
          obtain ⟨fl, fu, tl, tu, t⟩ := E
          simp only at p0 p1 p2 p3 p4 r0 r1 r2 r3 r4 cS htz HP1 hW1 HRR hpz HPOK
          go_wp2_with fail
          refine cS.mono ?_
          rintro e w2 ⟨rfl, hb2⟩
          have HB2 := Lib.hid (next HBW.out hb2)
          clear r0 r1 r2 r3 r4
          obtain ⟨r0, r1, r2, r3, r4⟩ := ed_cells HP1.out hb2
          clear hb2 cS
          have hax : a ≤ x.size := by omega
          go_wp2_with fail
          go_quiet (fail)
          go_wp2_with fail
          go_roundw
          case rel => exact ⟨i + 1, put x a b t, rfl, by go_num, by omega, by omega, HPOK, HRR, Lib.hid (next HB2.out (below_drewN _ _))⟩
          case measure => simp [intOf]; omega
      · obtain rfl : i = n := by omega
        have HRR : Hid (R = (x, 0)) := Lib.hid (by
          have := HS.out
          rw [List.drop_of_length_le (by rw [HN.out]; exact Nat.le_refl _)] at this
          exact this.symm)
        go_wp2_with fail
        go_ret2
        exact twoSI HRR.out HL.out
end Go.Proofs.YtccmicmlkgkheaaDoor.E

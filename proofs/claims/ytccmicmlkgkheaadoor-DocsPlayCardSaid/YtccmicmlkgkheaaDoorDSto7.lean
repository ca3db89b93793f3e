/- The program's store: Open. -/
import Derived.Test.YtccmicmlkgkheaaDoorDSto6
import Derived.WalkSpells
namespace Go.Proofs.YtccmicmlkgkheaaDoor.D
open Go.RowKit
open Go.Lib hiding intOf
open Go.Proofs.YtccmicmlkgkheaaDoor.U Go.Proofs.YtccmicmlkgkheaaDoor.L Go.Proofs.YtccmicmlkgkheaaDoor.E

theorem popen_or (l : List DocP) (d : DocP) :
    (nameOk d.n = false ∧ openL l d = (l, 1)) ∨ (nameOk d.n = true ∧ ∃ E, wrongT d.t = E ∧ (E == 0) = false ∧ openL l d = (l, E)) ∨
    (nameOk d.n = true ∧ wrongT d.t = 0 ∧ 8 ≤ l.length ∧ openL l d = (l, 73)) ∨ (nameOk d.n = true ∧ wrongT d.t = 0 ∧ l.length < 8 ∧ (findL l d.n).isSome = true ∧ openL l d = (l, 74)) ∨
    (nameOk d.n = true ∧ wrongT d.t = 0 ∧ l.length < 8 ∧ findL l d.n = none ∧ openL l d = (insL d l, 0)) := by
  unfold openL wrongT
  cases h1 : nameOk d.n
  · exact .inl ⟨rfl, by simp⟩
  · right
    cases h2 : okB d.t
    · exact .inl ⟨rfl, 11, by simp, by simp, by simp⟩
    · by_cases h3 : 16384 < d.t.size
      · exact .inl ⟨rfl, 73, by simp [h3], by simp, by simp [h3]⟩
      · right
        by_cases h4 : 8 ≤ l.length
        · exact .inl ⟨rfl, by simp [h3], h4, by simp [h4]⟩
        · right
          cases h5 : findL l d.n with
          | some x => exact .inl ⟨rfl, by simp [h3], by omega, rfl, by simp [h3, h4]⟩
          | none => exact .inr ⟨rfl, by simp [h3], by omega, rfl, by simp [h3, h4]⟩
theorem open_inv {l : List DocP} {d : DocP} (hI : Inv l) (h : openL l d = (insL d l, 0)) : Inv (insL d l) := by
  have := hI.act ⟨1, d, []⟩
  unfold doL at this
  simp only [if_true] at this
  rw [h] at this
  exact this

theorem set_one {W : World} {q : Nat} {a a' : Value} {t : TypeId} (h : W.heap[q]? = some (.cells #[a] t (0, 0))) : (W.setCell ⟨q, 0, none⟩ a').heap[q]? = some (.cells #[a'] t (0, 0)) := by
  have hq : q < W.heap.size := (Array.getElem?_eq_some_iff.1 h).1
  simp [World.setCell, Array.getElem?_modify, h]
set_option maxHeartbeats 4000000 in
set_option maxRecDepth 20000 in
theorem popen_any (p : Nat) (y : Option Nat) (l : List DocP) (d : DocP) (w : World) (h : PSt p y l w) (hI : Inv l) (hn : d.n.size ≤ 1000000) (ht : d.t.size ≤ 1000000) (hT : Tabs w) :
    Calls Tryd.prog 16 #[.pointer (some ⟨p, 0, none⟩), .agg #[.string d.n, .int .i64 d.v, .string d.t]] w (ProgPost p y (openL l d) w) := by
  obtain ⟨W, hW⟩ : ∃ W, w.alloc (.cells #[.string d.n, .int .i64 d.v, .string d.t] 30) = W := ⟨_, rfl⟩
  have hbw : Below w.heap.size w W := by rw [← hW]; exact (Below.refl _ _).alloc (Nat.le_refl _) _
  have hx : W.heap[w.heap.size]? = some (.cells #[.string d.n, .int .i64 d.v, .string d.t] 30 (0, 0)) := by rw [← hW]; exact heap_alloc_new _ _
  have cM := may_any d.n W hn (tabs_later hT hbw)
  have cW := fun X (hb : Below w.heap.size w X) => wrong_any d.t X ht (tabs_later hT hb)
  have CW := Lib.hid cW
  obtain ⟨⟨x0, x1, x2⟩, g0, g1, g2⟩ := sto_cells hx
  have HP := Lib.hid h
  have HBW := Lib.hid hbw
  have HX := Lib.hid hx
  have HI := Lib.hid hI
  have HN := Lib.hid hn
  clear cW hT ht hx hn hI
  rcases popen_or l d with ⟨h1, h2⟩ | ⟨h1, E, hE, hE0, h2⟩ | ⟨h1, hE, h3, h2⟩ | ⟨h1, hE, h3, h4, h2⟩ | ⟨h1, hE, h3, h4, h2⟩
  · rw [h2]
    rw [h1] at cM
    clear h2 h1 h hbw x1 x2 g0 g1 g2 CW
    go_enter Tryd.func16, Tryd.ntmps16
    go_wp2_with fail
    refine cM.mono ?_
    rintro e w1 ⟨rfl, hb1⟩
    have HB1 := Lib.hid (next HBW.out hb1)
    clear hb1 cM
    go_wp2_with fail
    go_ret
    exact ⟨rfl, Keep.of HB1.out (Nat.le_refl _), y, .inl rfl, HP.out.later HB1.out⟩
  all_goals
    rw [h2]
    rw [h1] at cM
    rw [hE] at CW
    clear h1 hE h hbw
    have H2 := Lib.hid h2
    clear h2
    go_enter Tryd.func16, Tryd.ntmps16
    go_wp2_with fail
    refine cM.mono ?_
    rintro e w1 ⟨rfl, hb1⟩
    have HB1 := Lib.hid (next HBW.out hb1)
    have HX1 := Lib.hid (bx_block HX.out hb1)
    clear x0 x1 x2 g0 g1 g2 cM hb1 hW
    obtain ⟨⟨x0, x1, x2⟩, g0, g1, g2⟩ := sto_cells HX1.out
    go_wp2_with fail
    refine (CW.out w1 HB1.out).mono ?_
    rintro e w2 ⟨rfl, hb2⟩
    have HB2 := Lib.hid (next HB1.out hb2)
    have HX2 := Lib.hid (bx_block HX1.out hb2)
    clear x0 x1 x2 g0 g1 g2 hb2
    obtain ⟨⟨x0, x1, x2⟩, g0, g1, g2⟩ := sto_cells HX2.out
    have hP2 := HP.out.later HB2.out
    have p0 := hP2.c0
    have f0 := hP2.f0
  · clear hP2
    go_wp2_with fail
    go_ret
    exact ⟨rfl, Keep.of HB2.out (Nat.le_refl _), y, .inl rfl, HP.out.later HB2.out⟩
  · have hln := fun ty => hP2.len HI.out ty
    have d1 : decide ((8 : Int) ≤ (l.length : Int)) = true := by simp; omega
    generalize l.length = m at hln d1 h3
    clear hP2
    go_wp2_with fail
    go_ret
    exact ⟨rfl, Keep.of HB2.out (Nat.le_refl _), y, .inl rfl, HP.out.later HB2.out⟩
  · have hln := fun ty => hP2.len HI.out ty
    have d1 : decide ((8 : Int) ≤ (l.length : Int)) = false := by simp; omega
    have hlk := (hP2.later (Below.refl _ _).drew).look HN.out
    have hlk2 := (hP2.later (((Below.refl _ _).alloc (Nat.le_refl _) (.cells #[.string ⟨#[]⟩, .int .i64 0, .string ⟨#[]⟩] 30)).drew)).look HN.out
    have hz2 : w.heap.size < w2.heap.size := (Array.getElem?_eq_some_iff.1 HX2.out).1
    have hp2 : p < w2.heap.size := hP2.lt
    rw [h4] at hlk hlk2
    obtain ⟨x, hxx⟩ : ∃ x, getL l d.n = x := ⟨_, rfl⟩
    rw [hxx] at hlk hlk2
    generalize l.length = m at hln d1 h3
    clear hP2 h4 hxx
    go_upto_region 8 with fail
    go_region
    all_goals
      go_wp2_with fail
      go_ret
      have hb3 : Below w.heap.size w (w2.alloc (.cells #[.string x.n, .int .i64 x.v, .string x.t] 30)).drew := (HB2.out.alloc HB2.out.size _).drew
      exact ⟨rfl, Keep.of hb3 (Nat.le_refl _), y, .inl rfl, HP.out.later hb3⟩
  · have hln := fun ty => hP2.len HI.out ty
    have d1 : decide ((8 : Int) ≤ (l.length : Int)) = false := by simp; omega
    have hg0 : getL l d.n = d0 := by unfold getL; rw [h4]; rfl
    have hlk := (hP2.later (Below.refl _ _).drew).look HN.out
    have hlk2 := (hP2.later (((Below.refl _ _).alloc (Nat.le_refl _) (.cells #[.string ⟨#[]⟩, .int .i64 0, .string ⟨#[]⟩] 30)).drew)).look HN.out
    have hz2 : w.heap.size < w2.heap.size := (Array.getElem?_eq_some_iff.1 HX2.out).1
    have hp2 : p < w2.heap.size := hP2.lt
    have hpw : p < w.heap.size := HP.out.lt
    rw [h4, hg0] at hlk hlk2
    simp only [d0, Option.isSome_none] at hlk hlk2
    generalize l.length = m at hln d1 h3
    have hb3 : Below w.heap.size w (w2.alloc (.cells #[.string ⟨#[]⟩, .int .i64 0, .string ⟨#[]⟩] 30)).drew := (HB2.out.alloc HB2.out.size _).drew
    have hx3 : (w2.alloc (.cells #[.string ⟨#[]⟩, .int .i64 0, .string ⟨#[]⟩] 30)).drew.heap[w.heap.size]? = _ := (Below.heap_alloc w2 (.cells #[.string ⟨#[]⟩, .int .i64 0, .string ⟨#[]⟩] 30) w.heap.size hz2).trans HX2.out
    obtain ⟨W3, hW3⟩ : ∃ W, (w2.alloc (.cells #[.string ⟨#[]⟩, .int .i64 0, .string ⟨#[]⟩] 30)).drew = W := ⟨_, rfl⟩
    rw [hW3] at hb3 hx3
    have HW3 := Lib.hid hW3
    have HB3 := Lib.hid hb3
    have HX3 := Lib.hid hx3
    have HM := Lib.hid (fun D (hM : MapOf D l) => hM.ins h4)
    have HI2 := Lib.hid (open_inv HI.out H2.out)
    clear hP2 h4 hg0 hW3 hb3 hx3
    go_upto_region 8 with fail
    go_region
    all_goals
      rw [HW3.out]
      have hP3 := HP.out.later HB3.out
      have p3 := hP3.c0
      have f3 := hP3.f0
      clear x0 x1 x2 g0 g1 g2 p0 f0 hlk hlk2 hz2 hp2
      obtain ⟨⟨x0, x1, x2⟩, g0, g1, g2⟩ := sto_cells HX3.out
      have hq := fun W => run_eql_map_nil (P := Tryd.prog) W 50 9 30 y Tryd.underlying50
      have hzw := HB3.out.size
      cases y with
      | some b =>
        obtain ⟨W5, hrun, hP5, hk5⟩ := (hP3.later (Below.refl _ _).drew).store d HN.out HI2.out HM.out
        have HP5 := Lib.hid hP5
        have HK5 := Lib.hid ((Keep.of (X := YY p (some b)) HB3.out.drew (Nat.le_refl _)).trans (hk5.weak hzw (fun k _ hx => .inr (by rw [hx]))))
        clear hP3 hP5 hk5
        go_upto_region 13 with fail
        go_region
        go_wp2_with fail
        go_ret
        exact ⟨rfl, HK5.out, some b, .inl rfl, HP5.out⟩
      | none =>
        have hmm := @run_makeMap Tryd.prog
        have hpz := hP3.lt
        have hl0 : l = [] := by
          rcases hP3.own with ⟨_, h⟩ | ⟨b, D, h, _⟩
          · exact h
          · cases h
        subst hl0
        obtain ⟨W4, hW4⟩ : ∃ W, (W3.setCell ⟨p, 0, none⟩ (.map (some W3.heap.size))).alloc (.map #[] 0) = W := ⟨_, rfl⟩
        have hsz4 : (W3.setCell ⟨p, 0, none⟩ (.map (some W3.heap.size))).heap.size = W3.heap.size := by simp
        have hb1 : W4.heap[p]? = some (.cells #[.map (some W3.heap.size)] 52 (0, 0)) := by
          rw [← hW4, Below.heap_alloc _ _ _ (by rw [hsz4]; exact hpz)]; exact set_one hP3.blk
        have hb2 : W4.heap[W3.heap.size]? = some (.map #[] 0) := by
          have e := heap_alloc_new (W3.setCell ⟨p, 0, none⟩ (.map (some W3.heap.size))) (.map #[] 0)
          rw [hW4, hsz4] at e; exact e
        have hk34 : Keep W3.heap.size (fun k => k = p) W3 W4 := by
          rw [← hW4]
          refine ⟨rfl, rfl, rfl, by rw [World.size_alloc, hsz4]; omega, fun k hk hx => ?_⟩
          rw [Below.heap_alloc _ _ _ (by rw [hsz4]; exact hk)]
          exact Below.heap_setCell _ _ _ _ hx
        have hx4 : W4.heap[w.heap.size]? = _ := (hk34.block w.heap.size (by have := (Array.getElem?_eq_some_iff.1 HX3.out).1; exact this) (by omega)).trans HX3.out
        have hP4 := (pst_made (W := W3) W4 hb1 hb2)
        obtain ⟨W5, hrun, hP5, hk5⟩ := (hP4.later (Below.refl _ _).drew).store d HN.out HI2.out HM.out
        have p4 := hP4.c0
        have HP5 := Lib.hid hP5
        have hk45 : Keep w.heap.size (YY p none) W4.drew W5 := hk5.weak (by have := hk34.size; show w.heap.size ≤ W4.heap.size; omega) (fun k hk hx => by omega)
        have HK5 : Hid (Keep w.heap.size (YY p none) w W5) := Lib.hid (((Keep.of (X := YY p none) HB3.out (Nat.le_refl _)).trans (hk34.weak hzw (fun k _ hx => .inl hx))).trans ((Keep.of (w := W4) (Below.refl _ _).drew (by have := hk34.size; omega)).trans hk45))
        clear x0 x1 x2 g0 g1 g2 hP5 hk5 hk45 hk34
        obtain ⟨⟨y0, y1, y2⟩, _, _, _⟩ := sto_cells hx4
        clear hP4 hx4 hb1 hb2 hsz4
        go_upto_region 13 with fail
        try rw [hW4]
        clear hW4 p3 f3 hP3
        go_region
        go_wp2_with fail
        go_ret
        exact ⟨rfl, HK5.out, some W3.heap.size, .inr ⟨rfl, _, rfl, hzw⟩, HP5.out⟩
end Go.Proofs.YtccmicmlkgkheaaDoor.D

/- The program's store: Change, Whole. -/
import Derived.Test.YtccmicmlkgkheaaDoorDSto5
import Derived.RegionTactic
import Derived.ChangeAlike
import Derived.BigRegion
namespace Go.Proofs.YtccmicmlkgkheaaDoor.D
open Go.RowKit
open Go.Lib hiding intOf
open Go.Proofs.YtccmicmlkgkheaaDoor.U Go.Proofs.YtccmicmlkgkheaaDoor.L Go.Proofs.YtccmicmlkgkheaaDoor.E

theorem PSt.some {p : Nat} {y : Option Nat} {l : List DocP} {W : World} (h : PSt p y l W) {n : ByteArray} {d : DocP} (hf : findL l n = .some d) : ∃ b, y = .some b := by
  rcases h.own with ⟨_, h2⟩ | ⟨b, D, h1, _⟩
  · rw [h2] at hf; cases hf
  · exact ⟨b, h1⟩
set_option maxHeartbeats 4000000 in
set_option maxRecDepth 20000 in
theorem pwhole_any (p : Nat) (y : Option Nat) (l : List DocP) (n : ByteArray) (v : Int) (t : ByteArray) (w : World) (h : PSt p y l w) (hI : Inv l) (hn : n.size ≤ 1000000) (ht : t.size ≤ 1000000) (hT : Tabs w) :
    Calls Tryd.prog 18 #[.pointer (some ⟨p, 0, none⟩), .string n, .int .i64 v, .string t] w (ProgPost p y (wholeL l n v t) w) := by
  have cN := pnew_any p y l n v w h hn
  obtain ⟨R, hR⟩ : ∃ R, wholeL l n v t = R := ⟨_, rfl⟩
  rw [hR]
  unfold wholeL at hR
  unfold pnewL at cN
  have HP := Lib.hid h
  have HT := Lib.hid hT
  cases hf : findL l n with
  | none =>
    rw [hf] at cN hR
    subst hR
    clear hf h hT
    simp only [d0] at cN
    go_enter Tryd.func18, Tryd.ntmps18
    go_wp2_with fail
    refine cN.mono ?_
    rintro e w1 ⟨rfl, hb1⟩
    have HB1 := Lib.hid hb1
    clear cN hb1
    go_wp2_with fail
    go_ret
    have hb : Below w.heap.size w (w1.alloc (.cells #[.string ⟨#[]⟩, .int .i64 0, .string ⟨#[]⟩] 30)) := HB1.out.alloc HB1.out.size _
    exact ⟨rfl, Keep.of hb (Nat.le_refl _), y, .inl rfl, HP.out.later hb⟩
  | some d =>
    rw [hf] at cN hR
    simp only at cN hR
    by_cases hv : v ≤ d.v
    · rw [if_pos hv] at cN hR
      subst hR
      clear hf h hT hv
      simp only [d0] at cN
      go_enter Tryd.func18, Tryd.ntmps18
      go_wp2_with fail
      refine cN.mono ?_
      rintro e w1 ⟨rfl, hb1⟩
      have HB1 := Lib.hid hb1
      clear cN hb1
      go_wp2_with fail
      go_ret
      have hb : Below w.heap.size w (w1.alloc (.cells #[.string ⟨#[]⟩, .int .i64 0, .string ⟨#[]⟩] 30)) := HB1.out.alloc HB1.out.size _
      exact ⟨rfl, Keep.of hb (Nat.le_refl _), y, .inl rfl, HP.out.later hb⟩
    · rw [if_neg hv] at cN hR
      simp only at cN
      have hdn := (findL_some hf).2
      rw [hdn] at cN
      have hwt : wrongT t = (if okB t = false then 11 else if 16384 < t.size then 73 else 0) := rfl
      obtain ⟨E, hE⟩ : ∃ E, wrongT t = E := ⟨_, rfl⟩
      by_cases hE0 : E = 0
      · subst hE0
        have hok : okB t = true ∧ t.size ≤ 16384 ∧ R = (putL l n v t, 0) := by
          rw [hE] at hwt
          cases hk : okB t
          · rw [hk] at hwt; simp at hwt
          · rw [hk] at hwt hR
            by_cases h1 : 16384 < t.size
            · rw [if_pos h1] at hwt; simp at hwt
            · rw [if_neg h1] at hR
              exact ⟨rfl, by omega, by simpa using hR.symm⟩
        obtain ⟨hok1, hok2, rfl⟩ := hok
        obtain ⟨b, rfl⟩ := h.some hf
        have hs : (findL l n).isSome = true := by rw [hf]; rfl
        have HI2 := Lib.hid (hI.put (n := n) (v := v) hok1 hok2)
        have HM2 := Lib.hid (fun D (hM : MapOf D l) => hM.put (v := v) (t := t) hs)
        clear hf h hT hv hR hwt hok1 hok2 hs
        have HN := Lib.hid hn
        have HTT := Lib.hid ht
        have HE := Lib.hid hE
        clear hn ht hE hdn
        go_enter Tryd.func18, Tryd.ntmps18
        go_wp2_with fail
        refine cN.mono ?_
        rintro e w1 ⟨rfl, hb1⟩
        obtain ⟨W2, hW2⟩ : ∃ W, w1.alloc (.cells #[.string n, .int .i64 v, .string d.t] 30) = W := ⟨_, rfl⟩
        have hb2 : Below w.heap.size w W2 := by rw [← hW2]; exact hb1.alloc hb1.size _
        have hx2 : W2.heap[w1.heap.size]? = some (.cells #[.string n, .int .i64 v, .string d.t] 30 (0, 0)) := by rw [← hW2]; exact heap_alloc_new _ _
        have cW := wrong_any t W2 HTT.out (tabs_later HT.out hb2)
        rw [HE.out] at cW
        have HB2 := Lib.hid hb2
        have HX2 := Lib.hid hx2
        have hzz : w.heap.size ≤ w1.heap.size := hb1.size
        clear cN hb1 hb2 hx2
        go_wp2_with fail
        refine cW.mono ?_
        rintro e w3 ⟨rfl, hb3⟩
        have hx3 : w3.heap[w1.heap.size]? = _ := (hb3.block _ (Array.getElem?_eq_some_iff.1 HX2.out).1).trans HX2.out
        have HB3 := Lib.hid (next HB2.out hb3)
        have HP3 := Lib.hid (HP.out.later HB3.out)
        obtain ⟨⟨x0, x1, x2⟩, g0, g1, g2⟩ := sto_cells hx3
        have p3 := HP3.out.c0
        have hpl := HP3.out.lt
        have hpq : p ≠ w1.heap.size := by have := HP.out.lt; omega
        clear cW hb3 hx3 hW2
        obtain ⟨q, hq⟩ : ∃ q, w1.heap.size = q := ⟨_, rfl⟩
        rw [hq] at x0 x1 x2 g0 g1 g2 hpq hzz ⊢
        have hb4 : Below w.heap.size w (w3.setCell ⟨q, 2, none⟩ (.string t)) := HB3.out.setCell hzz _
        obtain ⟨W4, hW4⟩ : ∃ W, w3.setCell ⟨q, 2, none⟩ (.string t) = W := ⟨_, rfl⟩
        rw [hW4] at hb4
        have hP4 := (HP.out.later hb4).later (Below.refl _ _).drew
        obtain ⟨W5, hrun, hP5, hk5⟩ := hP4.store ⟨n, v, t⟩ HN.out HI2.out HM2.out
        have HP5 := Lib.hid hP5
        have HK5 := Lib.hid ((Keep.of (X := YY p (some b)) hb4.drew (Nat.le_refl _)).trans (hk5.weak (hb4.size) (fun k _ hx => .inr (by rw [hx]))))
        have p4 : W4.cell? ⟨p, 0, none⟩ = some (.map (some b)) := hP4.c0
        have e0 : W4.cell? ⟨q, 0, none⟩ = some (.string n) := by rw [← hW4]; exact (World.cell?_setCell_other w3 _ _ _ (by simp)).trans x0
        have e1 : W4.cell? ⟨q, 1, none⟩ = some (.int .i64 v) := by rw [← hW4]; exact (World.cell?_setCell_other w3 _ _ _ (by simp)).trans x1
        have e2 : W4.cell? ⟨q, 2, none⟩ = some (.string t) := by rw [← hW4]; exact World.cell?_setCell_same w3 _ _ x2
        clear hq hP5 hk5 hb4 hP4
        go_upto_region 8 with fail
        try rw [hW4]
        clear hW4 x0 x1 x2 g0 g1 g2 p3
        go_region
        go_wp2_with fail
        go_ret
        exact ⟨rfl, HK5.out, some b, .inl rfl, HP5.out⟩
      · have hR2 : R = (l, E) := by
          rw [hE] at hwt
          cases hk : okB t
          · rw [hk] at hwt hR; simp at hwt hR; rw [← hR, hwt]
          · rw [hk] at hwt hR
            by_cases h1 : 16384 < t.size
            · rw [if_pos h1] at hwt hR; simp at hwt hR; rw [← hR, hwt]
            · rw [if_neg h1] at hwt; simp at hwt; exact absurd hwt hE0
        subst hR2
        have d1 : (E == 0) = false := by simpa using hE0
        clear hf h hT hv hR hwt hn hdn hE0
        have HTT := Lib.hid ht
        have HE := Lib.hid hE
        clear ht hE
        go_enter Tryd.func18, Tryd.ntmps18
        go_wp2_with fail
        refine cN.mono ?_
        rintro e w1 ⟨rfl, hb1⟩
        obtain ⟨W2, hW2⟩ : ∃ W, w1.alloc (.cells #[.string n, .int .i64 v, .string d.t] 30) = W := ⟨_, rfl⟩
        have hb2 : Below w.heap.size w W2 := by rw [← hW2]; exact hb1.alloc hb1.size _
        have cW := wrong_any t W2 HTT.out (tabs_later HT.out hb2)
        rw [HE.out] at cW
        have HB2 := Lib.hid hb2
        clear cN hb1 hb2
        go_wp2_with fail
        refine cW.mono ?_
        rintro e w3 ⟨rfl, hb3⟩
        have HB3 := Lib.hid (next HB2.out hb3)
        clear cW hb3 hW2
        go_wp2_with fail
        go_ret
        exact ⟨rfl, Keep.of HB3.out (Nat.le_refl _), y, .inl rfl, HP.out.later HB3.out⟩
set_option maxHeartbeats 4000000 in
set_option maxRecDepth 20000 in
theorem pchange_any (p : Nat) (y : Option Nat) (l : List DocP) (n : ByteArray) (v : Int) (es : List EdP) (ev : Value) (w : World) (h : PSt p y l w) (hI : Inv l) (hn : n.size ≤ 1000000) (hev : EdsIn w es ev) (hel : es.length ≤ 1000000) (het : ∀ e ∈ es, e.t.size ≤ 1000000) (hT : Tabs w) :
    Calls Tryd.prog 17 #[.pointer (some ⟨p, 0, none⟩), .string n, .int .i64 v, ev] w (ProgPost p y (changeL l n v es) w) := by
  have cN := pnew_any p y l n v w h hn
  obtain ⟨R, hR⟩ : ∃ R, changeL l n v es = R := ⟨_, rfl⟩
  rw [hR]
  unfold changeL at hR
  unfold pnewL at cN
  have HP := Lib.hid h
  have HT := Lib.hid hT
  cases hf : findL l n with
  | none =>
    rw [hf] at cN hR
    subst hR
    clear hf h hT hev het hel
    simp only [d0] at cN
    go_enter Tryd.func17, Tryd.ntmps17
    go_wp2_with fail
    refine cN.mono ?_
    rintro e w1 ⟨rfl, hb1⟩
    have HB1 := Lib.hid hb1
    clear cN hb1
    go_wp2_with fail
    go_ret
    have hb : Below w.heap.size w (w1.alloc (.cells #[.string ⟨#[]⟩, .int .i64 0, .string ⟨#[]⟩] 30)) := HB1.out.alloc HB1.out.size _
    exact ⟨rfl, Keep.of hb (Nat.le_refl _), y, .inl rfl, HP.out.later hb⟩
  | some d =>
    rw [hf] at cN hR
    simp only at cN hR
    by_cases hv : v ≤ d.v
    · rw [if_pos hv] at cN hR
      subst hR
      clear hf h hT hv hev het hel
      simp only [d0] at cN
      go_enter Tryd.func17, Tryd.ntmps17
      go_wp2_with fail
      refine cN.mono ?_
      rintro e w1 ⟨rfl, hb1⟩
      have HB1 := Lib.hid hb1
      clear cN hb1
      go_wp2_with fail
      go_ret
      have hb : Below w.heap.size w (w1.alloc (.cells #[.string ⟨#[]⟩, .int .i64 0, .string ⟨#[]⟩] 30)) := HB1.out.alloc HB1.out.size _
      exact ⟨rfl, Keep.of hb (Nat.le_refl _), y, .inl rfl, HP.out.later hb⟩
    · rw [if_neg hv] at cN hR
      simp only at cN
      have hdn := (findL_some hf).2
      rw [hdn] at cN
      have hdt := (hI.each d (findL_some hf).1).2.2
      obtain ⟨t, E, hA⟩ : ∃ t E, applyL d.t es = (t, E) := ⟨_, _, rfl⟩
      rw [hA] at hR
      simp only at hR
      have HA := Lib.hid hA
      have HEV := Lib.hid hev
      have HET := Lib.hid het
      by_cases hE0 : E = 0
      · subst hE0
        rw [if_neg (by simp)] at hR
        subst hR
        obtain ⟨hok1, hok2⟩ := applyL_fit hA hdt
        obtain ⟨b, rfl⟩ := h.some hf
        have hs : (findL l n).isSome = true := by rw [hf]; rfl
        have HI2 := Lib.hid (hI.put (n := n) (v := v) hok1 hok2)
        have HM2 := Lib.hid (fun D (hM : MapOf D l) => hM.put (v := v) (t := t) hs)
        have HN := Lib.hid hn
        clear hf h hT hv hok1 hok2 hs hn hdn hA hev het
        go_enter Tryd.func17, Tryd.ntmps17
        go_wp2_with fail
        refine cN.mono ?_
        rintro e w1 ⟨rfl, hb1⟩
        obtain ⟨W2, hW2⟩ : ∃ W, w1.alloc (.cells #[.string n, .int .i64 v, .string d.t] 30) = W := ⟨_, rfl⟩
        have hb2 : Below w.heap.size w W2 := by rw [← hW2]; exact hb1.alloc hb1.size _
        have hx2 : W2.heap[w1.heap.size]? = some (.cells #[.string n, .int .i64 v, .string d.t] 30 (0, 0)) := by rw [← hW2]; exact heap_alloc_new _ _
        have cW := apply_any es d.t ev W2 (by omega) (by omega) (fun e he => by have := HET.out e he; omega) (HEV.out.later hb2) (tabs_later HT.out hb2)
        rw [HA.out] at cW
        have HB2 := Lib.hid hb2
        have HX2 := Lib.hid hx2
        have hzz : w.heap.size ≤ w1.heap.size := hb1.size
        obtain ⟨⟨x0, x1, x2⟩, g0, g1, g2⟩ := sto_cells hx2
        clear cN hb1 hb2 hx2
        go_wp2_with fail
        refine cW.mono ?_
        rintro e w3 ⟨rfl, hb3⟩
        clear x0 x1 x2 g0 g1 g2
        have hx3 : w3.heap[w1.heap.size]? = _ := (hb3.block _ (Array.getElem?_eq_some_iff.1 HX2.out).1).trans HX2.out
        have HB3 := Lib.hid (next HB2.out hb3)
        have HP3 := Lib.hid (HP.out.later HB3.out)
        obtain ⟨⟨x0, x1, x2⟩, g0, g1, g2⟩ := sto_cells hx3
        have p3 := HP3.out.c0
        have hpl := HP3.out.lt
        have hpq : p ≠ w1.heap.size := by have := HP.out.lt; omega
        clear cW hb3 hx3 hW2
        obtain ⟨q, hq⟩ : ∃ q, w1.heap.size = q := ⟨_, rfl⟩
        rw [hq] at x0 x1 x2 g0 g1 g2 hpq hzz ⊢
        have hb4 : Below w.heap.size w (w3.setCell ⟨q, 2, none⟩ (.string t)) := HB3.out.setCell hzz _
        obtain ⟨W4, hW4⟩ : ∃ W, w3.setCell ⟨q, 2, none⟩ (.string t) = W := ⟨_, rfl⟩
        rw [hW4] at hb4
        have hP4 := (HP.out.later hb4).later (Below.refl _ _).drew
        obtain ⟨W5, hrun, hP5, hk5⟩ := hP4.store ⟨n, v, t⟩ HN.out HI2.out HM2.out
        have HP5 := Lib.hid hP5
        have HK5 := Lib.hid ((Keep.of (X := YY p (some b)) hb4.drew (Nat.le_refl _)).trans (hk5.weak (hb4.size) (fun k _ hx => .inr (by rw [hx]))))
        have p4 : W4.cell? ⟨p, 0, none⟩ = some (.map (some b)) := hP4.c0
        have e0 : W4.cell? ⟨q, 0, none⟩ = some (.string n) := by rw [← hW4]; exact (World.cell?_setCell_other w3 _ _ _ (by simp)).trans x0
        have e1 : W4.cell? ⟨q, 1, none⟩ = some (.int .i64 v) := by rw [← hW4]; exact (World.cell?_setCell_other w3 _ _ _ (by simp)).trans x1
        have e2 : W4.cell? ⟨q, 2, none⟩ = some (.string t) := by rw [← hW4]; exact World.cell?_setCell_same w3 _ _ x2
        clear hq hP5 hk5 hb4 hP4
        go_upto_region 7 with fail
        try rw [hW4]
        clear hW4 x0 x1 x2 g0 g1 g2 p3
        go_region
        go_wp2_with fail
        go_ret
        exact ⟨rfl, HK5.out, some b, .inl rfl, HP5.out⟩
      · rw [if_pos hE0] at hR
        subst hR
        have d1 : (E == 0) = false := by simpa using hE0
        clear hf h hT hv hn hdn hE0 hA hev het
        go_enter Tryd.func17, Tryd.ntmps17
        go_wp2_with fail
        refine cN.mono ?_
        rintro e w1 ⟨rfl, hb1⟩
        obtain ⟨W2, hW2⟩ : ∃ W, w1.alloc (.cells #[.string n, .int .i64 v, .string d.t] 30) = W := ⟨_, rfl⟩
        have hb2 : Below w.heap.size w W2 := by rw [← hW2]; exact hb1.alloc hb1.size _
        have hx2 : W2.heap[w1.heap.size]? = some (.cells #[.string n, .int .i64 v, .string d.t] 30 (0, 0)) := by rw [← hW2]; exact heap_alloc_new _ _
        have cW := apply_any es d.t ev W2 (by omega) (by omega) (fun e he => by have := HET.out e he; omega) (HEV.out.later hb2) (tabs_later HT.out hb2)
        rw [HA.out] at cW
        have HB2 := Lib.hid hb2
        have HX2 := Lib.hid hx2
        have hzz : w.heap.size ≤ w1.heap.size := hb1.size
        obtain ⟨⟨x0, x1, x2⟩, g0, g1, g2⟩ := sto_cells hx2
        clear cN hb1 hb2 hx2
        go_wp2_with fail
        refine cW.mono ?_
        rintro e w3 ⟨rfl, hb3⟩
        clear x0 x1 x2 g0 g1 g2
        have hx3 : w3.heap[w1.heap.size]? = _ := (hb3.block _ (Array.getElem?_eq_some_iff.1 HX2.out).1).trans HX2.out
        have HB3 := Lib.hid (next HB2.out hb3)
        obtain ⟨⟨x0, x1, x2⟩, g0, g1, g2⟩ := sto_cells hx3
        clear cW hb3 hx3 hW2
        go_wp2_with fail
        go_ret
        have hb : Below w.heap.size w (w3.setCell ⟨w1.heap.size, 2, none⟩ (.string t)) := HB3.out.setCell hzz _
        exact ⟨rfl, Keep.of hb (Nat.le_refl _), y, .inl rfl, HP.out.later hb⟩
end Go.Proofs.YtccmicmlkgkheaaDoor.D

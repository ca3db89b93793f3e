/- DocsRefused's walk. -/
import Derived.Test.YtccmicmlkgkheaaDoorDTwo2
namespace Go.Proofs.YtccmicmlkgkheaaDoor.D
open Go.RowKit
open Go.Lib hiding intOf
open Go.Proofs.YtccmicmlkgkheaaDoor.U Go.Proofs.YtccmicmlkgkheaaDoor.L Go.Proofs.YtccmicmlkgkheaaDoor.E

theorem doL_inv {l : List DocP} (h : Inv l) (a : ActP) {k : Int} (hk : a.k = k) : Inv (doL l ⟨k, a.d, a.es⟩).1 := by subst hk; exact h.act a
theorem refused_same {l : List DocP} (a : ActP) : (decide ((doL l a).2 = 0) = true) ∨ (decide ((doL l a).2 = 0) = false ∧ sameD l (doL l a).1 = true) := by
  by_cases h : (doL l a).2 = 0
  · exact .inl (by simpa using h)
  · exact .inr ⟨by simpa using h, sameD_iff.2 (refused l a h).symm⟩

set_option maxHeartbeats 8000000 in
set_option maxRecDepth 100000 in
theorem refused_any (acts : List ActP) (v : Value) (a : ActP) (ev : Value) (w : World) (hv : ActsIn w acts v) (hfit : ∀ a ∈ acts, ActFit 281474976710656 a) (hlen : acts.length ≤ 281474976710656) (hev : EdsIn w a.es ev) (hfa : ActFit 281474976710656 a) (hT : Tabs w) :
    Calls Tryd.prog 5 #[v, .agg #[.int .i64 a.k, .string a.d.n, .int .i64 a.d.v, .string a.d.t, ev]] w (True' w) := by
  obtain ⟨m, ea, ec, rfl⟩ : ∃ m ea ec, ev = .slice ea m ec := by obtain ⟨ea, ec, h, _⟩ := hev; exact ⟨_, ea, ec, h⟩
  obtain ⟨W0, hW0⟩ : ∃ W, w.alloc (.cells #[.int .i64 a.k, .string a.d.n, .int .i64 a.d.v, .string a.d.t, .slice ea m ec] 33) = W := ⟨_, rfl⟩
  have hbw : Below w.heap.size w W0 := by rw [← hW0]; exact (Below.refl _ _).alloc (Nat.le_refl _) _
  have hx0 : W0.heap[w.heap.size]? = some (.cells #[.int .i64 a.k, .string a.d.n, .int .i64 a.d.v, .string a.d.t, .slice ea m ec] 33 (0, 0)) := by rw [← hW0]; exact heap_alloc_new _ _
  have hT0 := tabs_later hT hbw
  have hev0 : EdsLow W0.heap.size W0 a.es (.slice ea m ec) := eds_low (hev.later hbw) (Nat.le_refl _)
  have hv0 : ActsIn W0 acts v := by
    obtain ⟨a0, c0, h1, h2⟩ := hv
    refine ⟨a0, c0, h1, h2.imp id fun ⟨g, off, h3, h4, h5⟩ => ⟨g, off, h3, by have := hbw.size; omega, fun i hi => ?_⟩⟩
    obtain ⟨ev, h6, h7⟩ := h5 i hi
    exact ⟨ev, fun j u hj => (hbw.cell (p := ⟨g, off + i * 5 + j, none⟩) h4).trans (h6 j u hj), h7.later hbw⟩
  have cN := snew_any W0
  have hAl := fun X (hk : Keep W0.heap.size (fun _ => False) W0 X) => alive_any X (tabs_keep hT0 hk (Nat.le_refl _))
  obtain ⟨a0, c0, rfl, hE⟩ := hv0
  have HE := Lib.hid hE
  have HF := Lib.hid hfit
  obtain ⟨n, hn⟩ : ∃ n, acts.length = n := ⟨_, rfl⟩
  have HN := Lib.hid hn
  rw [hn] at hlen ⊢
  have HT := Lib.hid hT0
  have HAL := Lib.hid hAl
  have HX0 := Lib.hid hx0
  have HBW := Lib.hid hbw
  have HEV0 := Lib.hid hev0
  have HFA := Lib.hid hfa
  have hfin : ∀ X, Below W0.heap.size W0 X → Below w.heap.size w X := fun X h => hbw.trans (h.mono hbw.size)
  have HFIN := Lib.hid hfin
  clear hE hfit hn hT hT0 hAl hv hbw hx0 hev0 hfa hev hfin
  go_enter Tryd.func5, Tryd.ntmps5
  go_wp2_with fail
  refine cN.mono ?_
  rintro e w1 ⟨rfl, hP, hb1⟩
  have hTwo := two_start hP hb1 HT.out
  obtain ⟨W2, hW2⟩ : ∃ W, w1.alloc (.cells #[.slice none 0 0] 28) = W := ⟨_, rfl⟩
  rw [hW2] at hTwo
  have HTW := Lib.hid hTwo
  have hx2 : W2.heap[w.heap.size]? = _ := (hTwo.below.block _ (Array.getElem?_eq_some_iff.1 HX0.out).1).trans HX0.out
  obtain ⟨z0, z1, z2, z3, z4⟩ := five_cells hx2
  have cF := fits_any a (.slice ea m ec) W2 HFA.out (HEV0.out.to hTwo.low hTwo.low.size)
  obtain ⟨R, hR⟩ : ∃ R, fitsA a = R := ⟨_, rfl⟩
  rw [hR] at cF
  have HR := Lib.hid hR
  clear hP hb1 cN hTwo hR hx2
  go_wp2_with fail
  refine cF.mono ?_
  rintro e w3 ⟨rfl, hb3⟩
  have HTW3 := Lib.hid (HTW.out.later hb3)
  clear cF hb3 z0 z1 z2 z3 z4 hW2 HTW hW0
  obtain ⟨p, hp⟩ : ∃ p, W0.heap.size = p := ⟨_, rfl⟩
  obtain ⟨q, hq⟩ : ∃ q, w1.heap.size = q := ⟨_, rfl⟩
  rw [hp, hq] at HTW3 ⊢
  clear hp hq
  cases R
  · have hal : Calls Tryd.prog 15 #[] w3 (True' w3) := HAL.out w3 HTW3.out.low
    go_wp2_with fail
    refine hal.mono ?_
    rintro e w4 ⟨rfl, hb4⟩
    have hbb := HFIN.out _ (next HTW3.out.below hb4)
    go_wp2_with fail
    go_ret
    exact ⟨rfl, hbb⟩
  go_wp2_with fail
  go_loopw [8] (fun iv wr => ∃ (i : Nat) (l : List DocP), iv = .int .i64 i ∧ i ≤ n ∧ i ≤ 60 ∧ Hid (Two p q W0 l wr)) (fun iv _ => n - (intOf iv).toNat)
  case atStart => exact ⟨0, [], rfl, Nat.zero_le _, by omega, HTW3⟩
  case round =>
    obtain ⟨i, l, rfl, hi, hi60, HW⟩ := hrel
    clear HTW3
    have hor : (decide ((i : Int) < (n : Int)) = true ∧ decide ((i : Int) < 60) = true) ∨ i = n ∨ (decide ((i : Int) < (n : Int)) = true ∧ decide ((i : Int) < 60) = false) := by
      by_cases h1 : i < n
      · by_cases h2 : i < 60
        · exact .inl ⟨by simpa using h1, by simp; omega⟩
        · exact .inr (.inr ⟨by simpa using h1, by simp; omega⟩)
      · exact .inr (.inl (by omega))
    rcases hor with ⟨d1, d2⟩ | rfl | ⟨d1, d2⟩
    · have hlt : i < n := by simpa using d1
      have h60 : i < 60 := by simp at d2; omega
      have hil : i < acts.length := by rw [HN.out]; exact hlt
      obtain ⟨g, off, rfl, hg, hat⟩ := HE.out.resolve_left (fun h => by rw [h] at hil; exact Nat.not_lt_zero _ hil)
      obtain ⟨sv, hsv, y0, y1, y2, y3, y4⟩ := act_low hat hg HW.out.low i hil
      have hfs := HF.out acts[i] (List.getElem_mem hil)
      generalize acts[i] = s at hsv y0 y1 y2 y3 y4 hfs
      obtain ⟨sm, sa, sc, rfl⟩ : ∃ m ea ec, sv = .slice ea m ec := by obtain ⟨ea, ec, h, _⟩ := hsv; exact ⟨_, ea, ec, h⟩
      have c1 := fits_any s (.slice sa sm sc) wr hfs (hsv.to HW.out.low HW.out.low.size)
      obtain ⟨R, hR⟩ : ∃ R, fitsA s = R := ⟨_, rfl⟩
      rw [hR] at c1
      have HR2 := Lib.hid hR
      have HSV := Lib.hid hsv
      have hgr : g < wr.heap.size := by have := HW.out.low.size; omega
      clear hat hsv hfs hR
      go_wp2_with fail
      refine c1.mono ?_
      rintro e w4 ⟨rfl, hb4⟩
      have HW4 := Lib.hid (HW.out.later hb4)
      clear c1
      replace y0 := (hb4.cell (p := ⟨g, off + i * 5, none⟩) hgr).trans y0
      replace y1 := (hb4.cell (p := ⟨g, off + i * 5 + 1, none⟩) hgr).trans y1
      replace y2 := (hb4.cell (p := ⟨g, off + i * 5 + 2, none⟩) hgr).trans y2
      replace y3 := (hb4.cell (p := ⟨g, off + i * 5 + 3, none⟩) hgr).trans y3
      replace y4 := (hb4.cell (p := ⟨g, off + i * 5 + 4, none⟩) hgr).trans y4
      clear hb4
      cases R
      · go_wp2_with fail
        go_roundw
        case rel => exact ⟨i + 1, l, by go_num, by omega, by omega, HW4⟩
        case measure => simp [intOf]; omega
      · have hft := fitsA_true HR2.out
        have hfit : ActFit 1000000 s := ⟨by omega, by omega, fun e he => by have := sumT_mem he; omega, by omega⟩
        have c2 := do_any p q W0 l s (.slice sa sm sc) w4 HW4.out hfit HSV.out
        obtain ⟨l', hl'⟩ : ∃ l', (doL l s).1 = l' := ⟨_, rfl⟩
        rw [hl'] at c2
        clear hft hfit hl'
        go_wp2_with fail
        refine c2.mono ?_
        rintro e w5 ⟨rfl, T5, _⟩
        have HW5 := Lib.hid T5
        clear c2 T5
        go_wp2_with fail
        go_roundw
        case rel => exact ⟨i + 1, l', by go_num, by omega, by omega, HW5⟩
        case measure => simp [intOf]; omega
    have d1 : decide ((i : Int) < (i : Int)) = false := by simp
    rotate_left
    have hlt : i < n := by simpa using d1
    rotate_left
    all_goals
      have cA := two_all HW.out
      have hft := fitsA_true HR.out
      have hfit : ActFit 1000000 a := ⟨by omega, by omega, fun e he => by have := sumT_mem he; omega, by omega⟩
      have HFIT := Lib.hid hfit
      clear hft hfit
      go_wp2_with fail
      refine cA.mono ?_
      rintro e w4 ⟨⟨v1, rfl, hd1⟩, hb4⟩
      have HW4 := Lib.hid (HW.out.later hb4)
      have hlts := HW.out.lts
      have HLT := Lib.hid hlts
      have HD1 := Lib.hid hd1
      have hx4 : w4.heap[w.heap.size]? = _ := (HW4.out.below.block _ (Array.getElem?_eq_some_iff.1 HX0.out).1).trans HX0.out
      obtain ⟨z0, z1, z2, z3, z4⟩ := five_cells hx4
      have HRS := Lib.hid (refused_same (l := l) a)
      have HIA := Lib.hid (HW4.out.inv.act a)
      have hB4 := hb4.size
      clear cA hb4 hd1 hx4 hlts HW
      obtain ⟨ak, ad, aes⟩ := a
      simp only at *
      have hevX := HEV0.out.to HW4.out.low HW4.out.low.size
      have hTX := HW4.out.tab
      by_cases h1 : ak = 1
      · subst h1
        have hd : doL l ⟨1, ad, aes⟩ = openL l ad := rfl
        rw [hd] at HRS HIA
        have c5 := mid_prog HW4.out.mid (fun y hp => popen_any p y l ad w4 hp HW4.out.inv HFIT.out.n HFIT.out.t hTX)
        generalize openL l ad = R at c5 HRS HIA
        obtain ⟨l5, e5⟩ := R
        simp only at c5 HRS HIA
        clear hd hevX hTX
        go_wp2_with fail
        refine c5.mono ?_
        rintro e w5 ⟨rfl, hm5, hc5⟩
        have cA := mid_all hm5 HIA.out
        have hlow : Keep W0.heap.size (fun _ => False) W0 w5 := hm5.low
        have hdd := (HD1.out.ckeep hc5 (by have := HLT.out.1; omega) (by have := HLT.out.2; omega))
        have HDD := Lib.hid hdd
        have HLOW := Lib.hid hlow
        have hfew := HW4.out.inv.few
        have hfew5 := (HIA.out).few
        clear c5 z0 z1 z2 z3 z4 hc5
        clear hdd hlow
        go_wp2_with fail
        refine cA.mono ?_
        rintro e w6 ⟨⟨v2, rfl, hd2⟩, hb6⟩
        have cS := same_any _ _ l l5 v1 v2 w6 (HDD.out.later hb6) hd2 (by omega) (by omega)
        have HLOW6 := Lib.hid (HLOW.out.trans (Keep.of (X := fun _ => False) hb6 HLOW.out.size))
        obtain ⟨sb, hsb⟩ : ∃ sb, sameD l l5 = sb := ⟨_, rfl⟩
        rw [hsb] at cS
        have HSB := Lib.hid hsb
        clear cA hd2 hb6 hsb
        go_wp2_with fail
        refine cS.mono ?_
        rintro e w7 ⟨rfl, hb7⟩
        have HLOW7 := Lib.hid (HLOW6.out.trans (Keep.of (X := fun _ => False) hb7 HLOW6.out.size))
        have hal : Calls Tryd.prog 15 #[] w7 (True' w7) := HAL.out w7 HLOW7.out
        clear cS hb7
        go_wp2_with fail
        refine hal.mono ?_
        rintro e w8 ⟨rfl, hb8⟩
        have HLOW8 := Lib.hid (HLOW7.out.trans (Keep.of (X := fun _ => False) hb8 HLOW7.out.size))
        clear hal hb8
        have hbb := HFIN.out _ ⟨HLOW8.out.os, HLOW8.out.tape, HLOW8.out.output, HLOW8.out.size, fun k hk => HLOW8.out.block k hk (fun h => h)⟩
        rcases HRS.out with hq | ⟨hq, hq2⟩
        · have hqb : (e5 == 0) = true := beq_iff_eq.2 (of_decide_eq_true hq)
          go_wp2_with fail
          go_ret
          exact ⟨rfl, hbb⟩
        · have hqb : (e5 == 0) = false := beq_eq_false_iff_ne.2 (of_decide_eq_false hq)
          rw [HSB.out] at hq2
          subst hq2
          go_wp2_with fail
          go_ret
          exact ⟨rfl, hbb⟩
      by_cases h2 : ak = 2
      · subst h2
        have hd : doL l ⟨2, ad, aes⟩ = changeL l ad.n ad.v aes := rfl
        rw [hd] at HRS HIA
        have c5 := mid_prog HW4.out.mid (fun y hp => pchange_any p y l ad.n ad.v aes (.slice ea m ec) w4 hp HW4.out.inv HFIT.out.n hevX HFIT.out.len HFIT.out.es hTX)
        generalize changeL l ad.n ad.v aes = R at c5 HRS HIA
        obtain ⟨l5, e5⟩ := R
        simp only at c5 HRS HIA
        clear hd hevX hTX
        go_wp2_with fail
        refine c5.mono ?_
        rintro e w5 ⟨rfl, hm5, hc5⟩
        have cA := mid_all hm5 HIA.out
        have hlow : Keep W0.heap.size (fun _ => False) W0 w5 := hm5.low
        have hdd := (HD1.out.ckeep hc5 (by have := HLT.out.1; omega) (by have := HLT.out.2; omega))
        have HDD := Lib.hid hdd
        have HLOW := Lib.hid hlow
        have hfew := HW4.out.inv.few
        have hfew5 := (HIA.out).few
        clear c5 z0 z1 z2 z3 z4 hc5
        clear hdd hlow
        go_wp2_with fail
        refine cA.mono ?_
        rintro e w6 ⟨⟨v2, rfl, hd2⟩, hb6⟩
        have cS := same_any _ _ l l5 v1 v2 w6 (HDD.out.later hb6) hd2 (by omega) (by omega)
        have HLOW6 := Lib.hid (HLOW.out.trans (Keep.of (X := fun _ => False) hb6 HLOW.out.size))
        obtain ⟨sb, hsb⟩ : ∃ sb, sameD l l5 = sb := ⟨_, rfl⟩
        rw [hsb] at cS
        have HSB := Lib.hid hsb
        clear cA hd2 hb6 hsb
        go_wp2_with fail
        refine cS.mono ?_
        rintro e w7 ⟨rfl, hb7⟩
        have HLOW7 := Lib.hid (HLOW6.out.trans (Keep.of (X := fun _ => False) hb7 HLOW6.out.size))
        have hal : Calls Tryd.prog 15 #[] w7 (True' w7) := HAL.out w7 HLOW7.out
        clear cS hb7
        go_wp2_with fail
        refine hal.mono ?_
        rintro e w8 ⟨rfl, hb8⟩
        have HLOW8 := Lib.hid (HLOW7.out.trans (Keep.of (X := fun _ => False) hb8 HLOW7.out.size))
        clear hal hb8
        have hbb := HFIN.out _ ⟨HLOW8.out.os, HLOW8.out.tape, HLOW8.out.output, HLOW8.out.size, fun k hk => HLOW8.out.block k hk (fun h => h)⟩
        rcases HRS.out with hq | ⟨hq, hq2⟩
        · have hqb : (e5 == 0) = true := beq_iff_eq.2 (of_decide_eq_true hq)
          go_wp2_with fail
          go_ret
          exact ⟨rfl, hbb⟩
        · have hqb : (e5 == 0) = false := beq_eq_false_iff_ne.2 (of_decide_eq_false hq)
          rw [HSB.out] at hq2
          subst hq2
          go_wp2_with fail
          go_ret
          exact ⟨rfl, hbb⟩
      by_cases h3 : ak = 3
      · subst h3
        have hd : doL l ⟨3, ad, aes⟩ = wholeL l ad.n ad.v ad.t := rfl
        rw [hd] at HRS HIA
        have c5 := mid_prog HW4.out.mid (fun y hp => pwhole_any p y l ad.n ad.v ad.t w4 hp HW4.out.inv HFIT.out.n HFIT.out.t hTX)
        generalize wholeL l ad.n ad.v ad.t = R at c5 HRS HIA
        obtain ⟨l5, e5⟩ := R
        simp only at c5 HRS HIA
        clear hd hevX hTX
        go_wp2_with fail
        refine c5.mono ?_
        rintro e w5 ⟨rfl, hm5, hc5⟩
        have cA := mid_all hm5 HIA.out
        have hlow : Keep W0.heap.size (fun _ => False) W0 w5 := hm5.low
        have hdd := (HD1.out.ckeep hc5 (by have := HLT.out.1; omega) (by have := HLT.out.2; omega))
        have HDD := Lib.hid hdd
        have HLOW := Lib.hid hlow
        have hfew := HW4.out.inv.few
        have hfew5 := (HIA.out).few
        clear c5 z0 z1 z2 z3 z4 hc5
        clear hdd hlow
        go_wp2_with fail
        refine cA.mono ?_
        rintro e w6 ⟨⟨v2, rfl, hd2⟩, hb6⟩
        have cS := same_any _ _ l l5 v1 v2 w6 (HDD.out.later hb6) hd2 (by omega) (by omega)
        have HLOW6 := Lib.hid (HLOW.out.trans (Keep.of (X := fun _ => False) hb6 HLOW.out.size))
        obtain ⟨sb, hsb⟩ : ∃ sb, sameD l l5 = sb := ⟨_, rfl⟩
        rw [hsb] at cS
        have HSB := Lib.hid hsb
        clear cA hd2 hb6 hsb
        go_wp2_with fail
        refine cS.mono ?_
        rintro e w7 ⟨rfl, hb7⟩
        have HLOW7 := Lib.hid (HLOW6.out.trans (Keep.of (X := fun _ => False) hb7 HLOW6.out.size))
        have hal : Calls Tryd.prog 15 #[] w7 (True' w7) := HAL.out w7 HLOW7.out
        clear cS hb7
        go_wp2_with fail
        refine hal.mono ?_
        rintro e w8 ⟨rfl, hb8⟩
        have HLOW8 := Lib.hid (HLOW7.out.trans (Keep.of (X := fun _ => False) hb8 HLOW7.out.size))
        clear hal hb8
        have hbb := HFIN.out _ ⟨HLOW8.out.os, HLOW8.out.tape, HLOW8.out.output, HLOW8.out.size, fun k hk => HLOW8.out.block k hk (fun h => h)⟩
        rcases HRS.out with hq | ⟨hq, hq2⟩
        · have hqb : (e5 == 0) = true := beq_iff_eq.2 (of_decide_eq_true hq)
          go_wp2_with fail
          go_ret
          exact ⟨rfl, hbb⟩
        · have hqb : (e5 == 0) = false := beq_eq_false_iff_ne.2 (of_decide_eq_false hq)
          rw [HSB.out] at hq2
          subst hq2
          go_wp2_with fail
          go_ret
          exact ⟨rfl, hbb⟩
      by_cases h4 : ak = 4
      · subst h4
        have hd : doL l ⟨4, ad, aes⟩ = closeL l ad.n := rfl
        rw [hd] at HRS HIA
        have c5 := mid_prog HW4.out.mid (fun y hp => pclose_any p y l ad.n w4 hp HFIT.out.n)
        generalize closeL l ad.n = R at c5 HRS HIA
        obtain ⟨l5, e5⟩ := R
        simp only at c5 HRS HIA
        clear hd hevX hTX
        go_wp2_with fail
        refine c5.mono ?_
        rintro e w5 ⟨rfl, hm5, hc5⟩
        have cA := mid_all hm5 HIA.out
        have hlow : Keep W0.heap.size (fun _ => False) W0 w5 := hm5.low
        have hdd := (HD1.out.ckeep hc5 (by have := HLT.out.1; omega) (by have := HLT.out.2; omega))
        have HDD := Lib.hid hdd
        have HLOW := Lib.hid hlow
        have hfew := HW4.out.inv.few
        have hfew5 := (HIA.out).few
        clear c5 z0 z1 z2 z3 z4 hc5
        clear hdd hlow
        go_wp2_with fail
        refine cA.mono ?_
        rintro e w6 ⟨⟨v2, rfl, hd2⟩, hb6⟩
        have cS := same_any _ _ l l5 v1 v2 w6 (HDD.out.later hb6) hd2 (by omega) (by omega)
        have HLOW6 := Lib.hid (HLOW.out.trans (Keep.of (X := fun _ => False) hb6 HLOW.out.size))
        obtain ⟨sb, hsb⟩ : ∃ sb, sameD l l5 = sb := ⟨_, rfl⟩
        rw [hsb] at cS
        have HSB := Lib.hid hsb
        clear cA hd2 hb6 hsb
        go_wp2_with fail
        refine cS.mono ?_
        rintro e w7 ⟨rfl, hb7⟩
        have HLOW7 := Lib.hid (HLOW6.out.trans (Keep.of (X := fun _ => False) hb7 HLOW6.out.size))
        have hal : Calls Tryd.prog 15 #[] w7 (True' w7) := HAL.out w7 HLOW7.out
        clear cS hb7
        go_wp2_with fail
        refine hal.mono ?_
        rintro e w8 ⟨rfl, hb8⟩
        have HLOW8 := Lib.hid (HLOW7.out.trans (Keep.of (X := fun _ => False) hb8 HLOW7.out.size))
        clear hal hb8
        have hbb := HFIN.out _ ⟨HLOW8.out.os, HLOW8.out.tape, HLOW8.out.output, HLOW8.out.size, fun k hk => HLOW8.out.block k hk (fun h => h)⟩
        rcases HRS.out with hq | ⟨hq, hq2⟩
        · have hqb : (e5 == 0) = true := beq_iff_eq.2 (of_decide_eq_true hq)
          go_wp2_with fail
          go_ret
          exact ⟨rfl, hbb⟩
        · have hqb : (e5 == 0) = false := beq_eq_false_iff_ne.2 (of_decide_eq_false hq)
          rw [HSB.out] at hq2
          subst hq2
          go_wp2_with fail
          go_ret
          exact ⟨rfl, hbb⟩
      have d1 : decide (ak = 1) = false := by simpa using h1
      have d2 : decide (ak = 2) = false := by simpa using h2
      have d3 : decide (ak = 3) = false := by simpa using h3
      have d4 : decide (ak = 4) = false := by simpa using h4
      have b1 : (ak == 1) = false := by simpa using d1
      have b2 : (ak == 2) = false := by simpa using d2
      have b3 : (ak == 3) = false := by simpa using d3
      have b4 : (ak == 4) = false := by simpa using d4
      have hd : doL l ⟨ak, ad, aes⟩ = (l, 0) := by unfold doL; simp only; rw [if_neg h1, if_neg h2, if_neg h3, if_neg h4]
      rw [hd] at HRS HIA
      simp only at HRS HIA
      clear hd h1 h2 h3 h4 hevX hTX
      have cA := mid_all HW4.out.mid HIA.out
      have hlow : Keep W0.heap.size (fun _ => False) W0 w4 := HW4.out.mid.low
      have hdd := HD1.out
      have HDD := Lib.hid hdd
      have HLOW := Lib.hid hlow
      have hfew := HW4.out.inv.few
      have hfew5 := (HIA.out).few
      skip
      clear hdd hlow
      go_wp2_with fail
      refine cA.mono ?_
      rintro e w6 ⟨⟨v2, rfl, hd2⟩, hb6⟩
      have cS := same_any _ _ l l v1 v2 w6 (HDD.out.later hb6) hd2 (by omega) (by omega)
      have HLOW6 := Lib.hid (HLOW.out.trans (Keep.of (X := fun _ => False) hb6 HLOW.out.size))
      obtain ⟨sb, hsb⟩ : ∃ sb, sameD l l = sb := ⟨_, rfl⟩
      rw [hsb] at cS
      have HSB := Lib.hid hsb
      clear cA hd2 hb6 hsb
      go_wp2_with fail
      refine cS.mono ?_
      rintro e w7 ⟨rfl, hb7⟩
      have HLOW7 := Lib.hid (HLOW6.out.trans (Keep.of (X := fun _ => False) hb7 HLOW6.out.size))
      have hal : Calls Tryd.prog 15 #[] w7 (True' w7) := HAL.out w7 HLOW7.out
      clear cS hb7
      go_wp2_with fail
      refine hal.mono ?_
      rintro e w8 ⟨rfl, hb8⟩
      have HLOW8 := Lib.hid (HLOW7.out.trans (Keep.of (X := fun _ => False) hb8 HLOW7.out.size))
      clear hal hb8
      have hbb := HFIN.out _ ⟨HLOW8.out.os, HLOW8.out.tape, HLOW8.out.output, HLOW8.out.size, fun k hk => HLOW8.out.block k hk (fun h => h)⟩
      rcases HRS.out with hq | ⟨hq, hq2⟩
      · have hqb : ((0 : Int) == 0) = true := beq_iff_eq.2 (of_decide_eq_true hq)
        go_wp2_with fail
        go_ret
        exact ⟨rfl, hbb⟩
      · have hqb : ((0 : Int) == 0) = false := beq_eq_false_iff_ne.2 (of_decide_eq_false hq)
        rw [HSB.out] at hq2
        subst hq2
        go_wp2_with fail
        go_ret
        exact ⟨rfl, hbb⟩
end Go.Proofs.YtccmicmlkgkheaaDoor.D

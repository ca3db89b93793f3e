/- DocsRise's walk. -/
import Derived.Test.YtccmicmlkgkheaaDoorDRefused
import Derived.Deep.QuietTactic
import Derived.BigQuiet
namespace Go.Proofs.YtccmicmlkgkheaaDoor.D
open Go.RowKit
open Go.Lib hiding intOf
open Go.Proofs.YtccmicmlkgkheaaDoor.U Go.Proofs.YtccmicmlkgkheaaDoor.L Go.Proofs.YtccmicmlkgkheaaDoor.E

theorem Inv.lt {l : List DocP} (h : Inv l) {j k : Nat} (hj : j < k) (hk : k < l.length) : Op.bytesLess (l[j]'(by omega)).n.toList l[k].n.toList = true :=
  List.pairwise_iff_getElem.1 h.rise j k (by omega) hk hj
theorem Inv.nsz {l : List DocP} (h : Inv l) {k : Nat} (hk : k < l.length) : l[k].n.size ≤ 1000000 := by
  have h1 := (h.each l[k] (List.getElem_mem hk)).1
  unfold nameOk at h1
  simp at h1
  omega
theorem Inv.getAt {l : List DocP} (h : Inv l) {k : Nat} (hk : k < l.length) : getL l l[k].n = l[k] ∧ (findL l l[k].n).isSome = true := by
  have := h.find (List.getElem_mem hk)
  unfold getL
  rw [this]
  exact ⟨rfl, rfl⟩
theorem geq_less {a b : ByteArray} (h : Op.bytesLess a.toList b.toList = true) (W : World) : (binOp .geq 9 (.string a) (.string b)).run Tryd.prog W = .ok (.bool false) W := by
  simp [binOp, Op.stringOp, h]
/-- Behind an act: how a document that was there reads. -/
theorem rises_or {l : List DocP} (h : Inv l) (a : ActP) {d : DocP} (hd : d ∈ l) :
    ((findL (doL l a).1 d.n).isSome = true ∧ getL (doL l a).1 d.n = d) ∨
    ((findL (doL l a).1 d.n).isSome = true ∧ docB (getL (doL l a).1 d.n) d = false ∧ decide ((getL (doL l a).1 d.n).v ≤ d.v) = false) ∨
    ((findL (doL l a).1 d.n).isSome = false ∧ a.k = 4) := by
  unfold getL
  rcases rises h a hd with ⟨e, he, rfl | hv⟩ | ⟨he, hk⟩
  · left; rw [he]; exact ⟨rfl, rfl⟩
  · right; left
    rw [he]
    refine ⟨rfl, ?_, by simp; omega⟩
    show docB e d = false
    cases hb : docB e d
    · rfl
    · rw [docB_iff] at hb; subst hb; omega
  · right; right; rw [he]; exact ⟨rfl, hk⟩

set_option maxHeartbeats 8000000 in
set_option maxRecDepth 100000 in
theorem rise_any (acts : List ActP) (v : Value) (w : World) (hv : ActsIn w acts v) (hfit : ∀ a ∈ acts, ActFit 281474976710656 a) (hlen : acts.length ≤ 281474976710656) (hT : Tabs w) :
    Calls Tryd.prog 4 #[v] w (True' w) := by
  have cN := snew_any w
  have hAl := fun X (hk : Keep w.heap.size (fun _ => False) w X) => alive_any X (tabs_keep hT hk (Nat.le_refl _))
  obtain ⟨a0, c0, rfl, hE⟩ := hv
  have HE := Lib.hid hE
  have HF := Lib.hid hfit
  obtain ⟨n, hn⟩ : ∃ n, acts.length = n := ⟨_, rfl⟩
  have HN := Lib.hid hn
  rw [hn] at hlen ⊢
  have HT := Lib.hid hT
  have HAL := Lib.hid hAl
  clear hE hfit hn hT hAl
  go_enter Tryd.func4, Tryd.ntmps4
  go_wp2_with fail
  refine cN.mono ?_
  rintro e w1 ⟨rfl, hP, hb1⟩
  have hTwo := two_start hP hb1 HT.out
  obtain ⟨W2, hW2⟩ : ∃ W, w1.alloc (.cells #[.slice none 0 0] 28) = W := ⟨_, rfl⟩
  rw [hW2] at hTwo
  have HTW := Lib.hid hTwo
  clear hP hb1 cN hTwo
  go_wp2_with fail
  clear hW2
  obtain ⟨p, hp⟩ : ∃ p, w.heap.size = p := ⟨_, rfl⟩
  obtain ⟨q, hq⟩ : ∃ q, w1.heap.size = q := ⟨_, rfl⟩
  rw [hp, hq] at HTW ⊢
  clear hp hq
  go_loopw [5] (fun iv wr => ∃ (i : Nat) (l : List DocP), iv = .int .i64 i ∧ i ≤ n ∧ i ≤ 60 ∧ Hid (Two p q w l wr)) (fun iv _ => n - (intOf iv).toNat)
  case atStart => exact ⟨0, [], rfl, Nat.zero_le _, by omega, HTW⟩
  case round =>
    obtain ⟨i, l, rfl, hi, hi60, HW⟩ := hrel
    clear HTW
    have hal : Calls Tryd.prog 15 #[] wr (True' wr) := HAL.out wr HW.out.low
    by_cases hlt : i < n
    · have e1 : decide ((i : Int) < (n : Int)) = true := by simpa using hlt
      by_cases h60 : i < 60
      · have e2 : decide ((i : Int) < 60) = true := by simp; omega
        clear hal
        have hil : i < acts.length := by rw [HN.out]; exact hlt
        obtain ⟨g, off, rfl, hg, hat⟩ := HE.out.resolve_left (fun h => by rw [h] at hil; exact Nat.not_lt_zero _ hil)
        obtain ⟨ev, hev, y0, y1, y2, y3, y4⟩ := act_low hat hg HW.out.low i hil
        have hfa := HF.out acts[i] (List.getElem_mem hil)
        generalize acts[i] = a at hev y0 y1 y2 y3 y4 hfa
        obtain ⟨m, ea, ec, rfl⟩ : ∃ m ea ec, ev = .slice ea m ec := by obtain ⟨ea, ec, h, _⟩ := hev; exact ⟨_, ea, ec, h⟩
        obtain ⟨W1, hW1⟩ : ∃ W, wr.alloc (.cells #[.int .i64 a.k, .string a.d.n, .int .i64 a.d.v, .string a.d.t, .slice ea m ec] 33) = W := ⟨_, rfl⟩
        have hx1 : W1.heap[wr.heap.size]? = some (.cells #[.int .i64 a.k, .string a.d.n, .int .i64 a.d.v, .string a.d.t, .slice ea m ec] 33 (0, 0)) := by rw [← hW1]; exact heap_alloc_new _ _
        have hb1 : Below wr.heap.size wr W1 := by rw [← hW1]; exact (Below.refl _ _).alloc (Nat.le_refl _) _
        have HW1 := Lib.hid (HW.out.later hb1)
        have c1 := fits_any a (.slice ea m ec) W1 hfa (hev.to HW1.out.low HW1.out.low.size)
        obtain ⟨z0, z1, z2, z3, z4⟩ := five_cells hx1
        obtain ⟨R, hR⟩ : ∃ R, fitsA a = R := ⟨_, rfl⟩
        rw [hR] at c1
        have HR := Lib.hid hR
        have HEV := Lib.hid hev
        have HX1 := Lib.hid hx1
        clear hat hev hfa hR hx1 hb1
        go_wp2_with fail
        refine c1.mono ?_
        rintro e w2 ⟨rfl, hb2⟩
        have HW2 := Lib.hid (HW1.out.later hb2)
        have HX2 := Lib.hid (bx_block HX1.out hb2)
        clear c1 z0 z1 z2 z3 z4 y0 y1 y2 y3 y4 hb2 hW1
        cases R
        · go_wp2_with fail
          go_roundw
          case rel => exact ⟨i + 1, l, by go_num, by omega, by omega, HW2⟩
          case measure => simp [intOf]; omega
        · have hft := fitsA_true HR.out
          have hfit : ActFit 1000000 a := ⟨by omega, by omega, fun e he => by have := sumT_mem he; omega, by omega⟩
          have HFIT := Lib.hid hfit
          have cA := two_all HW2.out
          clear hft hfit HW1
          go_wp2_with fail
          refine cA.mono ?_
          rintro e w3 ⟨⟨v1, rfl, hd1⟩, hb3⟩
          have HW3 := Lib.hid (HW2.out.later hb3)
          have HX3 := Lib.hid (bx_block HX2.out hb3)
          have HLT := Lib.hid HW2.out.lts
          have HLTW := Lib.hid HW.out.lts
          have HZ3 := Lib.hid hb3.size
          have HD1 := Lib.hid hd1
          obtain ⟨z0, z1, z2, z3, z4⟩ := five_cells HX3.out
          have c2 := do_any p q w l a (.slice ea m ec) w3 HW3.out HFIT.out HEV.out
          clear cA hd1 hb3
          obtain ⟨l', hl'⟩ : ∃ l', (doL l a).1 = l' := ⟨_, rfl⟩
          rw [hl'] at c2
          have HL' := Lib.hid hl'
          clear hl'
          go_wp2_with fail
          refine c2.mono ?_
          rintro e w4 ⟨rfl, T4, hk4⟩
          clear z0 z1 z2 z3 z4 c2
          have HW4 := Lib.hid T4
          have HX4 := Lib.hid (hk4 _ _ _ _ (show wr.heap.size ≠ p by have := HLTW.out.1; omega) (show wr.heap.size ≠ q by have := HLTW.out.2; omega) HX3.out)
          have HD14 := Lib.hid (HD1.out.ckeep hk4 HLT.out.1 HLT.out.2)
          have cA := two_all T4
          clear T4 hk4
          go_wp2_with fail
          refine cA.mono ?_
          rintro e w6 ⟨⟨v2, rfl, hd2⟩, hb6⟩
          have HW6 := Lib.hid (HW4.out.later hb6)
          have HX6 := Lib.hid (bx_block HX4.out hb6)
          obtain ⟨b1, k1, rfl, _, hc1⟩ := HD14.out.later hb6
          obtain ⟨b2, k2, rfl, _, hc2⟩ := hd2
          have HC1 := Lib.hid hc1
          have HC2 := Lib.hid hc2
          have hf1 := HW.out.inv.few
          have hf2 := HW4.out.inv.few
          obtain ⟨m1, hm1⟩ : ∃ m, l.length = m := ⟨_, rfl⟩
          obtain ⟨m2, hm2⟩ : ∃ m, l'.length = m := ⟨_, rfl⟩
          have HM1 := Lib.hid hm1
          have HM2 := Lib.hid hm2
          rw [hm1] at hf1 ⊢
          rw [hm2] at hf2 ⊢
          have e8 : decide ((8 : Int) < (m2 : Int)) = false := by simp; omega
          clear cA hb6 hc1 hc2 hm1 hm2
          have HB0 := Lib.hid (Below.refl w6.heap.size w6)
          obtain ⟨za, hza⟩ : ∃ za, wr.heap.size = za := ⟨_, rfl⟩
          rw [hza] at HX6 ⊢
          clear hza HX1 HX2 HX3 HX4 HZ3 HD1 HD14 HLT HLTW
          go_wp2_with fail
          go_loopw [10] (fun kv wr2 => ∃ (k : Nat), kv = .int .i64 k ∧ k ≤ m2 ∧ Hid (Below w6.heap.size w6 wr2)) (fun kv _ => m2 - (intOf kv).toNat)
          case atStart => exact ⟨0, rfl, Nat.zero_le _, HB0⟩
          case round =>
            obtain ⟨k, rfl, hk, HB⟩ := hrel
            by_cases hkl : k < m2
            · have hkl' : k < l'.length := by rw [HM2.out]; exact hkl
              have e3 : decide ((k : Int) < (m2 : Int)) = true := by simpa using hkl
              obtain ⟨g2, o2, rfl, _, hg2, hat2⟩ := HC2.out.resolve_left (fun h => by rw [h] at hkl'; exact Nat.not_lt_zero _ hkl')
              have hatw : DocsAt wr g2 o2 l' := fun j u hj => (HB.out.cell (p := ⟨g2, o2 + j, none⟩) hg2).trans (hat2 j u hj)
              obtain ⟨p0, p1, p2⟩ := doc_at k hatw hkl'
              obtain ⟨hget, hsome⟩ := HW6.out.inv.getAt hkl'
              have hnz := HW6.out.inv.nsz hkl'
              have HAT := Lib.hid hat2
              obtain ⟨x, hx⟩ : ∃ x, l'[k] = x := ⟨_, rfl⟩
              have HXX := Lib.hid hx
              rw [hx] at p0 p1 p2 hget hsome hnz
              have HNZ := Lib.hid hnz
              have HGET := Lib.hid hget
              have HSOME := Lib.hid hsome
              clear hat2 hget hsome hnz hx
              by_cases hk0 : 0 < k
              have e4 : decide ((0 : Int) < (k : Int)) = true := by simp; omega
              obtain ⟨j, hj⟩ : ∃ j, k = j + 1 := ⟨k - 1, by omega⟩
              have hjl : j < l'.length := by omega
              obtain ⟨r0, r1, r2⟩ := doc_at j hatw hjl
              have hcmp := HW6.out.inv.lt (show j < k by omega) hkl'
              rw [HXX.out] at hcmp
              generalize l'[j] = z at r0 r1 r2 hcmp
              have hge := fun W => geq_less hcmp W
              have hw : IntKind.i64.wrap ((k : Int) - 1) = (j : Int) := by rw [IntKind.wrap_i64]; omega
              have hj2 : (j : Int) < (m2 : Int) := by omega
              clear hatw r1 r2 p1 p2 hj hjl hcmp
              go_wp2_with fail
              go_quiet (fail)
              clear hge hw hj2 r0
              rotate_left
              have e4 : decide (0 < k) = false := by simpa using hk0
              have e5 : decide ((0 : Int) < (k : Int)) = false := by simp; omega
              clear hatw p1 p2
              go_wp2_with fail
              go_quiet (fail)
              clear e5
              rotate_left
              all_goals
                obtain ⟨w7, hw7⟩ : ∃ w7, wr.drewN nq = w7 := ⟨_, rfl⟩
                have HB7 : Hid (Below w6.heap.size w6 w7) := Lib.hid (by rw [← hw7]; exact next HB.out (L.below_drewN _ _))
                rw [hw7]
                clear hw7 p0
                obtain ⟨p0, p1, p2⟩ := doc_at k (fun j u hj => (HB7.out.cell (p := ⟨g2, o2 + j, none⟩) hg2).trans (HAT.out j u hj)) hkl'
                rw [HXX.out] at p0 p1 p2
                have cG := two_get (HW6.out.later HB7.out) HNZ.out
                rw [HGET.out, HSOME.out] at cG
                go_wp2_with fail
                refine cG.mono ?_
                rintro e w8 ⟨rfl, hb8⟩
                obtain ⟨W9, hW9⟩ : ∃ W, w8.alloc (.cells #[.string x.n, .int .i64 x.v, .string x.t] 30) = W := ⟨_, rfl⟩
                have hx9 : W9.heap[w8.heap.size]? = some (.cells #[.string x.n, .int .i64 x.v, .string x.t] 30 (0, 0)) := by rw [← hW9]; exact heap_alloc_new _ _
                have hb9 : Below w8.heap.size w8 W9 := by rw [← hW9]; exact (Below.refl _ _).alloc (Nat.le_refl _) _
                have HB9 := Lib.hid (next (next HB7.out hb8) hb9)
                obtain ⟨⟨n0, n1, n2⟩, _, _, _⟩ := sto_cells hx9
                clear p0 p1 p2 cG hb8 hb9 hx9
                obtain ⟨p0, p1, p2⟩ := doc_at k (fun j u hj => (HB9.out.cell (p := ⟨g2, o2 + j, none⟩) hg2).trans (HAT.out j u hj)) hkl'
                rw [HXX.out] at p0 p1 p2
                have heq := fun W => neq_doc x x W
                rw [docB_iff.2 rfl] at heq
                simp only [Bool.not_true] at heq
                have HW9 := Lib.hid hW9
                clear hW9
                go_upto_region 22 with fail
                rw [HW9.out]
                clear HW9
                go_quiet (fail)
                go_wp2_with fail
                go_roundw
                case rel => exact ⟨k + 1, by go_num, by omega, Lib.hid (next HB9.out (L.below_drewN _ _))⟩
                case measure => simp [intOf]; omega
            · obtain rfl : k = m2 := by omega
              have e3 : decide ((k : Int) < (k : Int)) = false := by simp
              have HB10 := HB
              go_wp2_with fail
              go_loopw [13] (fun kv wr3 => ∃ (j : Nat), kv = .int .i64 j ∧ j ≤ m1 ∧ Hid (Below w6.heap.size w6 wr3)) (fun kv _ => m1 - (intOf kv).toNat)
              case atStart => exact ⟨0, rfl, Nat.zero_le _, HB10⟩
              case round =>
                obtain ⟨j, rfl, hj, HB3⟩ := hrel
                clear HB10 HB
                by_cases hjl : j < m1
                · have hjl' : j < l.length := by rw [HM1.out]; exact hjl
                  have e4 : decide ((j : Int) < (m1 : Int)) = true := by simpa using hjl
                  obtain ⟨g1, o1, rfl, _, hg1, hat1⟩ := HC1.out.resolve_left (fun h => by rw [h] at hjl'; exact Nat.not_lt_zero _ hjl')
                  obtain ⟨p0, p1, p2⟩ := doc_at j (fun j u hj => (HB3.out.cell (p := ⟨g1, o1 + j, none⟩) hg1).trans (hat1 j u hj)) hjl'
                  have hnz := HW.out.inv.nsz hjl'
                  have hor := rises_or HW.out.inv a (List.getElem_mem hjl')
                  rw [HL'.out] at hor
                  have HAT := Lib.hid hat1
                  obtain ⟨x, hx⟩ : ∃ x, l[j] = x := ⟨_, rfl⟩
                  have HXX := Lib.hid hx
                  rw [hx] at p0 p1 p2 hnz hor
                  have cG := two_get (HW6.out.later HB3.out) hnz
                  obtain ⟨y, hy⟩ : ∃ y, getL l' x.n = y := ⟨_, rfl⟩
                  obtain ⟨b, hb⟩ : ∃ b, (findL l' x.n).isSome = b := ⟨_, rfl⟩
                  rw [hy, hb] at hor cG
                  have HOR := Lib.hid hor
                  clear hat1 hnz hx hor hy hb
                  go_wp2_with fail
                  refine cG.mono ?_
                  rintro e w8 ⟨rfl, hb8⟩
                  obtain ⟨W9, hW9⟩ : ∃ W, w8.alloc (.cells #[.string y.n, .int .i64 y.v, .string y.t] 30) = W := ⟨_, rfl⟩
                  have hx9 : W9.heap[w8.heap.size]? = some (.cells #[.string y.n, .int .i64 y.v, .string y.t] 30 (0, 0)) := by rw [← hW9]; exact heap_alloc_new _ _
                  have hb9 : Below w8.heap.size w8 W9 := by rw [← hW9]; exact (Below.refl _ _).alloc (Nat.le_refl _) _
                  have HB9 := Lib.hid (next (next HB3.out hb8) hb9)
                  obtain ⟨⟨n0, n1, n2⟩, _, _, _⟩ := sto_cells hx9
                  clear p0 p1 p2 cG hb8 hb9 hx9
                  obtain ⟨p0, p1, p2⟩ := doc_at j (fun j u hj => (HB9.out.cell (p := ⟨g1, o1 + j, none⟩) hg1).trans (HAT.out j u hj)) hjl'
                  rw [HXX.out] at p0 p1 p2
                  obtain ⟨zk, _, _, _, _⟩ := five_cells (bx_block HX6.out HB9.out)
                  have HW9 := Lib.hid hW9
                  clear hW9
                  rcases HOR.out with ⟨rfl, rfl⟩ | ⟨rfl, h1, h2⟩ | ⟨rfl, h1⟩
                  · have heq := fun W => neq_doc y y W
                    rw [docB_iff.2 rfl] at heq
                    simp only [Bool.not_true] at heq
                    clear zk
                    go_upto_region 28 with fail
                    rw [HW9.out]
                    clear HW9
                    go_quiet (fail)
                    go_wp2_with fail
                    go_roundw
                    case rel => exact ⟨j + 1, by go_num, by omega, Lib.hid (next HB9.out (L.below_drewN _ _))⟩
                    case measure => simp [intOf]; omega
                  · have heq := fun W => neq_doc y x W
                    rw [h1] at heq
                    simp only [Bool.not_false] at heq
                    clear zk h1
                    go_upto_region 28 with fail
                    rw [HW9.out]
                    clear HW9
                    go_quiet (fail)
                    go_wp2_with fail
                    go_roundw
                    case rel => exact ⟨j + 1, by go_num, by omega, Lib.hid (next HB9.out (L.below_drewN _ _))⟩
                    case measure => simp [intOf]; omega
                  · rw [h1] at zk
                    clear p0 p1 p2 h1
                    go_upto_region 28 with fail
                    rw [HW9.out]
                    clear HW9
                    go_quiet (fail)
                    go_wp2_with fail
                    go_roundw
                    case rel => exact ⟨j + 1, by go_num, by omega, Lib.hid (next HB9.out (L.below_drewN _ _))⟩
                    case measure => simp [intOf]; omega
                · obtain rfl : j = m1 := by omega
                  have e4 : decide ((j : Int) < (j : Int)) = false := by simp
                  go_wp2_with fail
                  go_roundw
                  case rel => exact ⟨i + 1, l', by go_num, by omega, by omega, Lib.hid (HW6.out.later HB3.out)⟩
                  case measure => simp [intOf]; omega
      · have e2 : decide ((i : Int) < 60) = false := by simp; omega
        have HWB := Lib.hid HW.out.below
        go_wp2_with fail
        refine hal.mono ?_
        rintro e w5 ⟨rfl, hb5⟩
        have hbb := next HWB.out hb5
        go_wp2_with fail
        go_ret
        exact ⟨rfl, hbb⟩
    · obtain rfl : i = n := by omega
      have e1 : decide ((i : Int) < (i : Int)) = false := by simp
      have HWB := Lib.hid HW.out.below
      go_wp2_with fail
      refine hal.mono ?_
      rintro e w5 ⟨rfl, hb5⟩
      have hbb := next HWB.out hb5
      go_wp2_with fail
      go_ret
      exact ⟨rfl, hbb⟩
end Go.Proofs.YtccmicmlkgkheaaDoor.D

/- Contracts of the document's own plain, begins, made and Pieces of layer 9. -/
import Derived.Test.YtapjomdplibanaaDoorQRep
import Derived.Test.YtapjomdplibanaaDoorSRef5
import Derived.Maps.AppendAt
namespace Go.Proofs.YtapjomdplibanaaDoor.Q
open Go.RowKit
open Go.Lib hiding intOf
open Go.Proofs.YtapjomdplibanaaDoor.U Go.Proofs.YtapjomdplibanaaDoor.S Go.Proofs.YtapjomdplibanaaDoor.L

set_option maxHeartbeats 4000000 in
set_option maxRecDepth 20000 in
theorem refPlain_any (c : UInt8) (w : World) : Calls Tryd.prog 31 #[.int .u8 (c.toNat : Nat)] w fun e w' => e = .returned (.bool (nmc c)) ∧ w = w' := by
  have hf : nmc c = decide (((97 ≤ c.toNat ∧ c.toNat ≤ 122) ∨ (65 ≤ c.toNat ∧ c.toNat ≤ 90) ∨ c.toNat = 95) ∨ (48 ≤ c.toNat ∧ c.toNat ≤ 57)) := by
    unfold nmc lett figu
    have : decide (c = 95) = decide (c.toNat = 95) := by
      rw [decide_eq_decide]
      exact ⟨fun h => by rw [h]; rfl, fun h => UInt8.toNat_inj.1 h⟩
    rw [this]
    simp [UInt8.le_iff_toNat_le, Bool.or_assoc]
  rw [hf]
  generalize c.toNat = n
  obtain ⟨R, hR⟩ : ∃ R, decide (((97 ≤ n ∧ n ≤ 122) ∨ (65 ≤ n ∧ n ≤ 90) ∨ n = 95) ∨ (48 ≤ n ∧ n ≤ 57)) = R := ⟨_, rfl⟩
  have HR := Lib.hid hR
  rw [hR]
  clear hR
  go_enter Tryd.func31, Tryd.ntmps31
  go_wp2_with fail
  all_goals (go_ret; exact ⟨retB (by rw [← HR.out, Bool.eq_iff_iff]; simp; omega), rfl⟩)
/-- A name from a place on, so far. -/
def NameTo (l : By) (i n : Nat) : Prop := (l.drop i).takeWhile nmc = (l.drop i).take n ++ (l.drop (i + n)).takeWhile nmc
theorem nameTo_start (l : By) (i : Nat) : NameTo l i 0 := by unfold NameTo; simp
theorem nameTo_on (s : ByteArray) {i n : Nat} (h : NameTo s.toList i n) (hn : i + n < s.size) (hc : nmc s[i + n] = true) : NameTo s.toList i (n + 1) := by
  unfold NameTo at h ⊢
  have hl := tl_drop s hn
  rw [h, hl, List.takeWhile_cons, if_pos hc, ← Nat.add_assoc]
  have ht : (s.toList.drop i).take (n + 1) = (s.toList.drop i).take n ++ [s[i + n]] := by
    rw [List.take_add_one, List.getElem?_drop, tl_get s hn]; rfl
  rw [ht]; simp
theorem nameTo_off (s : ByteArray) {i n : Nat} (h : NameTo s.toList i n) (hc : (∃ hn : i + n < s.size, nmc s[i + n] = false) ∨ s.size ≤ i + n) : (s.extract i (i + n)).toList = (s.toList.drop i).takeWhile nmc := by
  unfold NameTo at h
  rw [h, S.ext_list, show i + n - i = n by omega]
  rcases hc with ⟨hn, hc⟩ | hc
  · rw [tl_drop s hn, List.takeWhile_cons, if_neg (by rw [hc]; simp), List.append_nil]
  · rw [tl_end s hc]; simp
set_option maxHeartbeats 4000000 in
set_option maxRecDepth 20000 in
theorem refBegins_any (s : ByteArray) (i : Nat) (w : World) (hi : i ≤ s.size) (hs : s.size ≤ 1000000) : Calls Tryd.prog 20 #[.string s, .int .i64 i] w fun e w' => e = .returned (.bool (beg s.toList i)) ∧ w = w' := by
  have cP := fun c W => refPlain_any c W
  obtain ⟨R, hR⟩ : ∃ R, beg s.toList i = R := ⟨_, rfl⟩
  rw [hR]
  have main : (i = 0 ∨ s.toList[i - 1]? = some 10) → kw ((s.toList.drop i).takeWhile nmc) = R := fun h => by
    rw [← hR]
    unfold beg declW
    rcases h with h | h <;> simp [h]
  have off : ∀ (hi0 : i - 1 < s.size), i ≠ 0 → s[i - 1].toNat ≠ 10 → R = false := fun hi0 h0 h1 => by
    rw [← hR]
    unfold beg
    rw [tl_get s hi0]
    have : ¬ s[i - 1] = 10 := fun e => h1 (by rw [e]; rfl)
    simp [h0, this]
  have HM := Lib.hid main
  have HO := Lib.hid off
  clear hR main off
  by_cases h0 : i = 0
  · have HW := Lib.hid (HM.out (.inl h0))
    have hg : decide (0 < i) = false := by simp [h0]
    clear h0
    go_enter Tryd.func20, Tryd.ntmps20
    go_wp2_with fail
    go_loop [5] (fun nv => ∃ n : Nat, nv = .int .i64 n ∧ i + n ≤ s.size ∧ Hid (NameTo s.toList i n)) (fun nv => s.size - (intOf nv).toNat)
    case atStart => exact ⟨0, rfl, hi, Lib.hid (nameTo_start _ _)⟩
    case round =>
      obtain ⟨n, rfl, hn, HN⟩ := hrel
      have e0 : IntKind.i64.wrap ((i : Int) + (n : Int)) = (i : Int) + (n : Int) := IntWalk.i64_in _ (by omega)
      have e1 : IntKind.i64.wrap ((n : Int) + 1) = (n : Int) + 1 := IntWalk.i64_in _ (by omega)
      have s0 : (0 : Int) ≤ (i : Int) := by omega
      have s1 : (i : Int) ≤ (i : Int) + (n : Int) := by omega
      have s2 : (i : Int) + (n : Int) ≤ (s.size : Int) := by omega
      have s3 : i ≤ i + n := by omega
      by_cases hlt : i + n < s.size
      · have s4 : (i : Int) + (n : Int) < (s.size : Int) := by omega
        have s5 : (0 : Int) ≤ (i : Int) + (n : Int) := by omega
        have g1 := nameTo_on s HN.out hlt
        have g2 : nmc s[i + n] = false → (s.extract i (i + n)).toList = (s.toList.drop i).takeWhile nmc := fun h => nameTo_off s HN.out (.inl ⟨hlt, h⟩)
        obtain ⟨x, hx⟩ : ∃ x, s[i + n] = x := ⟨_, rfl⟩
        rw [hx] at g1 g2
        have G1 := Lib.hid g1
        have G2 := Lib.hid g2
        clear g1 g2
        have c1 := cP x w
        cases hl : nmc x
        · rw [hl] at c1
          have HE : Hid (R = kw (s.extract i (i + n)).toList) := Lib.hid (by rw [G2.out hl]; exact HW.out.symm)
          obtain ⟨y, hy⟩ : ∃ y, s.extract i (i + n) = y := ⟨_, rfl⟩
          rw [hy] at HE
          clear hl
          go_wp2_with fail
          refine c1.mono ?_
          rintro e w2 ⟨rfl, rfl⟩
          clear c1
          go_wp2_with fail
          all_goals (go_ret; exact ⟨retB (by first | (exfalso; simp_all; done) | (rw [HE.out]; simp only [kw, *]; rfl) | (rw [HE.out]; simp [kw, *]; done) | (rw [HE.out]; simp_all [kw]; done)), rfl⟩)
        · rw [hl] at c1
          have HN2 := Lib.hid (G1.out hl)
          clear hl
          go_wp2_with fail
          refine c1.mono ?_
          rintro e w2 ⟨rfl, rfl⟩
          clear c1
          go_wp2_with fail
          go_round
          case rel => exact ⟨n + 1, by go_num, by omega, HN2⟩
          case measure => simp [intOf]; omega
      · have hz : s.size ≤ i + n := by omega
        have HE : Hid (R = kw (s.extract i (i + n)).toList) := Lib.hid (by rw [nameTo_off s HN.out (.inr hz)]; exact HW.out.symm)
        obtain ⟨y, hy⟩ : ∃ y, s.extract i (i + n) = y := ⟨_, rfl⟩
        rw [hy] at HE
        have s4 : ¬ (i : Int) + (n : Int) < (s.size : Int) := by omega
        go_wp2_with fail
        all_goals (go_ret; exact ⟨retB (by first | (exfalso; simp_all; done) | (rw [HE.out]; simp only [kw, *]; rfl) | (rw [HE.out]; simp [kw, *]; done) | (rw [HE.out]; simp_all [kw]; done)), rfl⟩)
  · have hi0 : i - 1 < s.size := by omega
    have g0 := HO.out hi0 h0
    have g3 := tl_get s hi0
    obtain ⟨z, hz⟩ : ∃ z, s[i - 1] = z := ⟨_, rfl⟩
    rw [hz] at g0 g3
    have G0 := Lib.hid g0
    have hg : 0 < i := by omega
    have ew : IntKind.i64.wrap ((i : Int) - 1) = ((i - 1 : Nat) : Int) := (IntWalk.i64_in _ (by omega)).trans (by omega)
    by_cases h10 : z.toNat = 10
    · have HW : Hid (kw ((s.toList.drop i).takeWhile nmc) = R) := Lib.hid (HM.out (.inr (by rw [g3]; congr 1; exact UInt8.toNat_inj.1 h10)))
      have h10' : ((z.toNat : Int) != 10) = false := by simp [h10]
      clear h0 g0 g3 h10
      go_enter Tryd.func20, Tryd.ntmps20
      go_wp2_with fail
      go_loop [5] (fun nv => ∃ n : Nat, nv = .int .i64 n ∧ i + n ≤ s.size ∧ Hid (NameTo s.toList i n)) (fun nv => s.size - (intOf nv).toNat)
      case atStart => exact ⟨0, rfl, hi, Lib.hid (nameTo_start _ _)⟩
      case round =>
        obtain ⟨n, rfl, hn, HN⟩ := hrel
        have e0 : IntKind.i64.wrap ((i : Int) + (n : Int)) = (i : Int) + (n : Int) := IntWalk.i64_in _ (by omega)
        have e1 : IntKind.i64.wrap ((n : Int) + 1) = (n : Int) + 1 := IntWalk.i64_in _ (by omega)
        have s0 : (0 : Int) ≤ (i : Int) := by omega
        have s1 : (i : Int) ≤ (i : Int) + (n : Int) := by omega
        have s2 : (i : Int) + (n : Int) ≤ (s.size : Int) := by omega
        have s3 : i ≤ i + n := by omega
        by_cases hlt : i + n < s.size
        · have s4 : (i : Int) + (n : Int) < (s.size : Int) := by omega
          have s5 : (0 : Int) ≤ (i : Int) + (n : Int) := by omega
          have g1 := nameTo_on s HN.out hlt
          have g2 : nmc s[i + n] = false → (s.extract i (i + n)).toList = (s.toList.drop i).takeWhile nmc := fun h => nameTo_off s HN.out (.inl ⟨hlt, h⟩)
          obtain ⟨x, hx⟩ : ∃ x, s[i + n] = x := ⟨_, rfl⟩
          rw [hx] at g1 g2
          have G1 := Lib.hid g1
          have G2 := Lib.hid g2
          clear g1 g2
          have c1 := cP x w
          cases hl : nmc x
          · rw [hl] at c1
            have HE : Hid (R = kw (s.extract i (i + n)).toList) := Lib.hid (by rw [G2.out hl]; exact HW.out.symm)
            obtain ⟨y, hy⟩ : ∃ y, s.extract i (i + n) = y := ⟨_, rfl⟩
            rw [hy] at HE
            clear hl
            go_wp2_with fail
            refine c1.mono ?_
            rintro e w2 ⟨rfl, rfl⟩
            clear c1
            go_wp2_with fail
            all_goals (go_ret; exact ⟨retB (by first | (exfalso; simp_all; done) | (rw [HE.out]; simp only [kw, *]; rfl) | (rw [HE.out]; simp [kw, *]; done) | (rw [HE.out]; simp_all [kw]; done)), rfl⟩)
          · rw [hl] at c1
            have HN2 := Lib.hid (G1.out hl)
            clear hl
            go_wp2_with fail
            refine c1.mono ?_
            rintro e w2 ⟨rfl, rfl⟩
            clear c1
            go_wp2_with fail
            go_round
            case rel => exact ⟨n + 1, by go_num, by omega, HN2⟩
            case measure => simp [intOf]; omega
        · have hz : s.size ≤ i + n := by omega
          have HE : Hid (R = kw (s.extract i (i + n)).toList) := Lib.hid (by rw [nameTo_off s HN.out (.inr hz)]; exact HW.out.symm)
          obtain ⟨y, hy⟩ : ∃ y, s.extract i (i + n) = y := ⟨_, rfl⟩
          rw [hy] at HE
          have s4 : ¬ (i : Int) + (n : Int) < (s.size : Int) := by omega
          go_wp2_with fail
          all_goals (go_ret; exact ⟨retB (by first | (exfalso; simp_all; done) | (rw [HE.out]; simp only [kw, *]; rfl) | (rw [HE.out]; simp [kw, *]; done) | (rw [HE.out]; simp_all [kw]; done)), rfl⟩)
    · have HF := Lib.hid (G0.out h10)
      clear h0 g0 g3
      go_enter Tryd.func20, Tryd.ntmps20
      go_wp2_with fail
      go_ret
      exact ⟨by rw [HF.out]; rfl, rfl⟩
theorem set_row4 {W : World} {q : Nat} {a b c d a' b' c' d' : Value} {t : TypeId} (h : W.heap[q]? = some (.cells #[a, b, c, d] t (0, 0))) :
    ((((W.setCell ⟨q, 0, none⟩ a').setCell ⟨q, 1, none⟩ b').setCell ⟨q, 2, none⟩ c').setCell ⟨q, 3, none⟩ d').heap[q]? = some (.cells #[a', b', c', d'] t (0, 0)) := by
  have hq : q < W.heap.size := (Array.getElem?_eq_some_iff.1 h).1
  simp [World.setCell, Array.getElem?_modify, h]
set_option maxHeartbeats 4000000 in
set_option maxRecDepth 20000 in
theorem refMade_any (s : ByteArray) (f e : Nat) (w : World) (hfe : f ≤ e) (hes : e ≤ s.size) (hs : s.size ≤ 1000000) :
    Calls Tryd.prog 21 #[.string s, .int .i64 f, .int .i64 e] w fun e' w' => e' = .returned (.agg #[.int .i64 f, .int .i64 e, .bool (made s.toList f e).d, .bool (made s.toList f e).j]) ∧ Below w.heap.size w w' := by
  have cB := fun X => refBegins_any s f X (by omega) hs
  have cS := fun X => refScan_any (s.extract f e) X (by rw [ByteArray.size_extract]; omega)
  have hd : (made s.toList f e).d = beg s.toList f := rfl
  have hj : (made s.toList f e).j = (!beg s.toList f && decide (0 < (scanB (okB (s.extract f e)) (s.extract f e).toList).length)) := by
    show (!beg s.toList f && hw ((s.toList.drop f).take (e - f))) = _
    unfold hw
    rw [← S.ext_list, tl_mk]
    congr 1
    cases scanB (okB (s.extract f e)) (s.extract f e).toList <;> simp
  rw [hd, hj]
  obtain ⟨b, hb⟩ : ∃ b, beg s.toList f = b := ⟨_, rfl⟩
  rw [hb] at cB ⊢
  obtain ⟨Ts, hTs⟩ : ∃ Ts, scanB (okB (s.extract f e)) (s.extract f e).toList = Ts := ⟨_, rfl⟩
  rw [hTs] at cS ⊢
  obtain ⟨k, hk⟩ : ∃ k, Ts.length = k := ⟨_, rfl⟩
  have HTK := Lib.hid hk
  rw [hk]
  clear hk
  obtain ⟨y, hy⟩ : ∃ y, s.extract f e = y := ⟨_, rfl⟩
  have s0 : (0 : Int) ≤ (f : Int) := by omega
  have s1 : (f : Int) ≤ (e : Int) := by omega
  have s2 : (e : Int) ≤ (s.size : Int) := by omega
  clear hd hj hb hTs
  rw [hy] at cS
  go_enter Tryd.func21, Tryd.ntmps21
  go_wp2_with fail
  refine (cB _).mono ?_
  rintro e1 w1 ⟨rfl, rfl⟩
  clear cB
  go_wp2_with fail
  obtain ⟨W1, hW1⟩ : ∃ W1, w.alloc (.cells #[.int .i64 0, .int .i64 0, .bool false, .bool false] 42) = W1 := ⟨_, rfl⟩
  have hb1 : Below w.heap.size w W1 := by rw [← hW1]; exact (Below.refl _ w).alloc (Nat.le_refl _) _
  have hq1 : W1.heap[w.heap.size]? = some (.cells #[.int .i64 0, .int .i64 0, .bool false, .bool false] 42 (0, 0)) := by rw [← hW1]; exact World.alloc_heap_new w _
  rw [hW1]
  clear hW1
  have HQ1 := Lib.hid hq1
  have HB1 := Lib.hid hb1
  clear hb1 hq1
  refine (cS W1).mono ?_
  rintro e2 w2 ⟨v, rfl, hv, hb2⟩
  obtain ⟨a, cp, rfl, _, _⟩ := hv
  have hqw := (Array.getElem?_eq_some_iff.1 HQ1.out).1
  have hq2 := (hb2.block w.heap.size hqw).trans HQ1.out
  have hbb : Below w.heap.size w w2 := HB1.out.trans (hb2.mono (Nat.le_of_lt hqw))
  have hfb : ∀ a' b' c' d', Below w.heap.size w ((((w2.setCell ⟨w.heap.size, 0, none⟩ a').setCell ⟨w.heap.size, 1, none⟩ b').setCell ⟨w.heap.size, 2, none⟩ c').setCell ⟨w.heap.size, 3, none⟩ d') := fun a' b' c' d' =>
    (((hbb.setCell (p := ⟨w.heap.size, 0, none⟩) (Nat.le_refl _) a').setCell (p := ⟨w.heap.size, 1, none⟩) (Nat.le_refl _) b').setCell (p := ⟨w.heap.size, 2, none⟩) (Nat.le_refl _) c').setCell (p := ⟨w.heap.size, 3, none⟩) (Nat.le_refl _) d'
  have HFB := Lib.hid hfb
  have HQ := Lib.hid hq2
  obtain ⟨k0, k1, k2, k3⟩ := tk_cells hq2
  have f0 : ∀ j, w2.frozen? ⟨w.heap.size, j, none⟩ = false := fun j => by simp [World.frozen?, hq2]
  have g0 := f0 0
  have g1 := f0 1
  have g2 := f0 2
  have g3 := f0 3
  rw [HTK.out]
  clear cS hb2 hq2 hbb hfb f0 hy
  cases b
  · by_cases hk0 : 0 < k
    · go_wp2_with fail
      (try simp only [Exit.inBlock, Exit.then])
      have hp := set_row4 (a' := .int .i64 f) (b' := .int .i64 e) (c' := .bool false) (d' := .bool true) HQ.out
      refine bodyPost_ret (v := .agg #[.int .i64 f, .int .i64 e, .bool false, .bool true]) (results_cell_row rfl _ _ w.heap.size 42 #[.int .i64 f, .int .i64 e, .bool false, .bool true] (0, 0) _ (by rfl) hp Tryd.underlying42 rfl (by kernel_rfl)) rfl ?_
      exact ⟨by simp [hk0], HFB.out _ _ _ _⟩
    · obtain rfl : k = 0 := by omega
      go_wp2_with fail
      (try simp only [Exit.inBlock, Exit.then])
      have hp := set_row4 (a' := .int .i64 f) (b' := .int .i64 e) (c' := .bool false) (d' := .bool false) HQ.out
      refine bodyPost_ret (v := .agg #[.int .i64 f, .int .i64 e, .bool false, .bool false]) (results_cell_row rfl _ _ w.heap.size 42 #[.int .i64 f, .int .i64 e, .bool false, .bool false] (0, 0) _ (by rfl) hp Tryd.underlying42 rfl (by kernel_rfl)) rfl ?_
      exact ⟨by simp, HFB.out _ _ _ _⟩
  · go_wp2_with fail
    (try simp only [Exit.inBlock, Exit.then])
    have hp := set_row4 (a' := .int .i64 f) (b' := .int .i64 e) (c' := .bool true) (d' := .bool false) HQ.out
    refine bodyPost_ret (v := .agg #[.int .i64 f, .int .i64 e, .bool true, .bool false]) (results_cell_row rfl _ _ w.heap.size 42 #[.int .i64 f, .int .i64 e, .bool true, .bool false] (0, 0) _ (by rfl) hp Tryd.underlying42 rfl (by kernel_rfl)) rfl ?_
    exact ⟨by simp, HFB.out _ _ _ _⟩
end Go.Proofs.YtapjomdplibanaaDoor.Q

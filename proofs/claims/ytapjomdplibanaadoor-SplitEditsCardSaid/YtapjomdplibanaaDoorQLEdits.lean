/- Law SplitEdits of layer 9. -/
import Derived.Test.YtapjomdplibanaaDoorQAlive
import Derived.Test.YtapjomdplibanaaDoorQFacts
import Derived.Laws.StructEq
namespace Go.Proofs.YtapjomdplibanaaDoor.Q
open Go.RowKit
open Go.Lib hiding intOf
open Go.Proofs.YtapjomdplibanaaDoor.U Go.Proofs.YtapjomdplibanaaDoor.S Go.Proofs.YtapjomdplibanaaDoor.L

theorem pieces_len2 (s : By) : (pieces s).length ≤ s.length + 1 := by
  have := List.length_filter_le (beg s) (List.range' 1 (s.length - 1))
  rw [List.length_range'] at this
  unfold pieces
  rw [chain_len]
  unfold cuts
  omega
set_option maxRecDepth 20000 in
theorem pc_eq (k : Nat) (a e a' e' : Int) (b j b' j' : Bool) (W : World) : (Op.equalIn (k + 1 + 1) 36 (.agg #[.int .i64 a, .int .i64 e, .bool b, .bool j]) (.agg #[.int .i64 a', .int .i64 e', .bool b', .bool j'])).run Tryd.prog W = .ok ((a == a') && (e == e') && (b == b') && (j == j')) W := by
  rw [run_equalIn_agg _ _ _ _ _ (by kernel_rfl) (by kernel_rfl)]
  cases h : (a == a') <;> cases h2 : (e == e') <;> cases h3 : (b == b') <;> cases h4 : (j == j') <;> simp [Op.eqFields, go_sem, h, h2, h3, h4] <;> simp_all
theorem neq_pc (a e : Int) (b j : Bool) (W : World) : (binOp .neq 36 (.agg #[.int .i64 a, .int .i64 e, .bool b, .bool j]) (.agg #[.int .i64 a, .int .i64 e, .bool b, .bool j])).run Tryd.prog W = .ok (.bool false) W := by
  rw [run_neq_struct, show (10000 : Nat) = 9998 + 1 + 1 from rfl, pc_eq]; simp
theorem pcs_get {B n c : Nat} {a : Option Addr} {W : World} {l : List PcP} {i : Nat} (h : PcsIn B W l (.slice a n c)) (hi : i < l.length) : ∃ g off, a = some ⟨g, off, none⟩ ∧ g < W.heap.size ∧ PcsAt W g off l := by
  obtain ⟨a', c', he, _, h2⟩ := h
  cases he
  obtain ⟨g, off, h3, _, h4, h5⟩ := h2.resolve_left (fun e => by rw [e] at hi; exact Nat.not_lt_zero _ hi)
  exact ⟨g, off, h3, h4, h5⟩
set_option maxHeartbeats 8000000 in
set_option maxRecDepth 20000 in
theorem edits_short (s t : ByteArray) (p q : Nat) (w : World) (hs : s.size ≤ 250) (ht : t.size ≤ 250) (hpq : p ≤ q) (hq : q ≤ s.size) (hT : Tabs w) : Calls Tryd.prog 5 #[.string s, .agg #[.int .i64 p, .int .i64 q], .string t] w fun e w' => e = .returned (.bool true) ∧ Below w.heap.size w w' := by
  obtain ⟨S', hS'⟩ : ∃ S', s.extract 0 p ++ t ++ s.extract q s.size = S' := ⟨_, rfl⟩
  have hSz : S'.size ≤ 1000 := by
    rw [← hS', ByteArray.size_append, ByteArray.size_append, ByteArray.size_extract, ByteArray.size_extract]; omega
  have hSl : S'.toList = s.toList.take p ++ t.toList ++ s.toList.drop q := by
    rw [← hS', S.cat_list, S.cat_list, ext_drop, S.ext_list, List.drop_zero, Nat.sub_zero]
  obtain ⟨a, b, e1, e2, e3, e4, e5, e6⟩ := edits_plain s.toList t.toList p q hpq (by rw [tl_len]; exact hq)
  rw [← hSl] at e4 e5 e6
  rw [tl_len] at e6
  replace e6 : ∀ i, i < (pieces s.toList).length → b ≤ i → ∃ k px py, k + (pieces s.toList).length = (pieces S'.toList).length + i ∧ (pieces s.toList)[i]? = some px ∧ (pieces S'.toList)[k]? = some py ∧ Moved ((t.size : Int) - ((q : Int) - p)) px py := fun i hi hb => by
    obtain ⟨k, hk, h1, h2⟩ := e6 i hi hb
    exact ⟨k, _, _, h1, List.getElem?_eq_getElem hi, List.getElem?_eq_getElem hk, h2⟩
  have hlx : (pieces s.toList).length ≤ 251 := Nat.le_trans (pieces_len2 _) (by rw [tl_len]; omega)
  have hly : (pieces S'.toList).length ≤ 1001 := Nat.le_trans (pieces_len2 _) (by rw [tl_len]; omega)
  have hxb : ∀ z ∈ pieces s.toList, z.f ≤ 251 ∧ z.e ≤ 251 := fun z hz => by
    have h := fol_mem (fol_pieces s.toList).1 z hz
    rw [(fol_pieces s.toList).2, tl_len] at h
    omega
  have cX := fun X hX => pieces_any s X (by omega) hX
  have cY := fun X hX => pieces_any S' X (by omega) hX
  obtain ⟨x, hx⟩ : ∃ x, pieces s.toList = x := ⟨_, rfl⟩
  obtain ⟨y, hy⟩ : ∃ y, pieces S'.toList = y := ⟨_, rfl⟩
  rw [hx] at e1 e3 hlx
  simp only [hx] at e4 e5 e6 cX hxb
  have HXB := Lib.hid hxb
  clear hxb
  simp only [hy] at e4 e5 e6 cY hly
  clear hx hy hSl hSz
  obtain ⟨n, hn⟩ : ∃ n, x.length = n := ⟨_, rfl⟩
  obtain ⟨m, hm⟩ : ∃ m, y.length = m := ⟨_, rfl⟩
  have HX0 := Lib.hid hn
  have HY0 := Lib.hid hm
  rw [hn] at e3 hlx
  rw [hn, hm] at e4
  rw [hm] at hly
  have E5 := Lib.hid e5
  have E6 := Lib.hid e6
  have HT := Lib.hid hT
  have HCX := Lib.hid cX
  have HCY := Lib.hid cY
  have HTL := Lib.hid e1
  obtain ⟨mv, hmv⟩ : ∃ mv : Int, (t.size : Int) - ((q : Int) - (p : Int)) = mv := ⟨_, rfl⟩
  have hmv1 : -250 ≤ mv := by omega
  have hmv2 : mv ≤ 250 := by omega
  have w0 : IntKind.i64.wrap ((q : Int) - (p : Int)) = (q : Int) - (p : Int) := IntWalk.i64_in _ (by omega)
  have w1' : IntKind.i64.wrap ((t.size : Int) - ((q : Int) - (p : Int))) = mv := (IntWalk.i64_in _ (by omega)).trans hmv
  rw [hmv] at E6
  have s0 : (0 : Int) ≤ (p : Int) := by omega
  have s1 : (p : Int) ≤ (q : Int) := by omega
  have s2 : (q : Int) ≤ (s.size : Int) := by omega
  have s3 : (p : Int) ≤ (s.size : Int) := by omega
  have g0 : (a : Int) < (b : Int) := by omega
  have g1 : (b : Int) ≤ (n : Int) := by omega
  have g2 : IntKind.i64.wrap ((a : Int) + (n : Int)) = (a : Int) + (n : Int) := IntWalk.i64_in _ (by omega)
  have g3 : IntKind.i64.wrap ((a : Int) + (n : Int) - (b : Int)) = (a : Int) + (n : Int) - (b : Int) := IntWalk.i64_in _ (by omega)
  have g4 : (a : Int) + (n : Int) - (b : Int) ≤ (m : Int) := by omega
  clear hn hm e5 e6 cX cY e1 hT hmv
  go_enter Tryd.func5, Tryd.ntmps5
  go_upto_region 5 with fail
  obtain ⟨W0, hW0⟩ : ∃ W0, w.alloc (.cells #[.int .i64 p, .int .i64 q] 39) = W0 := ⟨_, rfl⟩
  have HB0 : Hid (Below w.heap.size w W0) := Lib.hid (by rw [← hW0]; exact (Below.refl _ w).alloc (Nat.le_refl _) _)
  rw [hW0]
  clear hW0
  have cX := HCX.out W0 (HT.out.later HB0.out)
  clear HCX
  go_wp2_with fail
  refine cX.mono ?_
  rintro e w1 ⟨v1, rfl, hv1, hb1⟩
  have HX1 := Lib.hid hv1
  have HL1 := Lib.hid (HB0.out.trans (hb1.mono HB0.out.size))
  obtain ⟨xa, xc, rfl, _, _⟩ := hv1
  rw [HX0.out]
  rw [HX0.out] at HX1
  have c6 : ∀ X, Below w1.heap.size w1 X → Calls Tryd.prog 8 #[.string (s.extract 0 p ++ t ++ s.extract q s.size)] X fun e w' => ∃ ya yc, e = .returned (.slice ya m yc) ∧ Hid (PcsIn 0 w' y (.slice ya m yc)) ∧ Hid (Below w1.heap.size w1 w') := fun X hX => by
    rw [hS']
    refine (HCY.out X (HT.out.later (HL1.out.trans (hX.mono HL1.out.size)))).mono ?_
    rintro e w' ⟨v, rfl, hv, hb⟩
    have hv2 := hv
    obtain ⟨ya, yc, rfl, h1, h2⟩ := hv
    rw [HY0.out] at hv2 ⊢
    refine ⟨ya, yc, rfl, Lib.hid ?_, Lib.hid (hX.trans (hb.mono hX.size))⟩
    refine ⟨ya, yc, by rw [HY0.out], h1, ?_⟩
    rcases h2 with h2 | ⟨g, off, h3, _, h4, h5⟩
    · exact .inl h2
    · exact .inr ⟨g, off, h3, Nat.zero_le _, h4, h5⟩
  clear cX hb1 hS'
  go_upto_region 6 with fail
  go_region_with (first
    | (go_at_call 8; (with_reducible refine (c6 _ ?_).mono ?_); (exact ⟨rfl, rfl, rfl, Nat.le_refl _, fun _ _ => rfl⟩); rintro e w2 ⟨ya, yc, rfl, HY2, HB2⟩))
  all_goals
    have HX2 := Lib.hid (HX1.out.later HB2.out)
    have HL2 := Lib.hid (HL1.out.trans (HB2.out.mono HL1.out.size))
    have cT := touched_any _ x _ p q w2 HX2.out (by rw [HX0.out]; omega)
    rw [HTL.out] at cT
    dsimp only at cT
    clear c6 s0 s1 s2 s3 hs ht hpq hq
    go_wp2_with fail
    refine cT.mono ?_
    rintro e w3 ⟨rfl, hb3⟩
    have HX3 := Lib.hid (HX2.out.later hb3)
    have HY3 := Lib.hid (HY2.out.later hb3)
    have HL3 := Lib.hid (HL2.out.trans (hb3.mono HL2.out.size))
    clear cT hb3
    go_wp2_with fail
    go_loopw [13] (fun iv wr => ∃ i : Nat, iv = .int .i64 i ∧ i ≤ a ∧ Hid (Below w3.heap.size w3 wr)) (fun iv _ => a - (intOf iv).toNat)
    case atStart => exact ⟨0, rfl, Nat.zero_le _, Lib.hid (Below.refl _ _)⟩
    case round =>
      obtain ⟨i, rfl, hi, HW⟩ := hrel
      by_cases hlt : i < a
      · have hix : i < x.length := by rw [HX0.out]; omega
        have he := E5.out i hlt
        rw [List.getElem?_eq_getElem hix] at he
        have hiy : i < y.length := (List.getElem?_eq_some_iff.1 he.symm).1
        have hee : y[i] = x[i] := by rw [List.getElem?_eq_getElem hiy] at he; exact (Option.some.inj he).symm
        have hin : i < n := by omega
        have him : i < m := by rw [← HY0.out]; exact hiy
        obtain ⟨g, off, rfl, hg, hat⟩ := pcs_get HX3.out hix
        obtain ⟨g', off', rfl, hg', hat'⟩ := pcs_get HY3.out hiy
        obtain ⟨p0, p1, p2, p3⟩ := pc_at i (fun j u hj => (HW.out.cell (p := ⟨g, off + j, none⟩) hg).trans (hat j u hj)) hix
        obtain ⟨r0, r1, r2, r3⟩ := pc_at i (fun j u hj => (HW.out.cell (p := ⟨g', off' + j, none⟩) hg').trans (hat' j u hj)) hiy
        rw [hee] at r0 r1 r2 r3
        generalize x[i] = z at p0 p1 p2 p3 r0 r1 r2 r3 hee he
        clear he hee hat hat' hix hiy
        obtain ⟨zf, ze, zd, zj⟩ := z
        dsimp only at p0 p1 p2 p3 r0 r1 r2 r3
        have hq := fun W => neq_pc zf ze zd zj W
        go_upto_region 13 with fail
        go_quiet (fail)
        go_wp2_with fail
        go_roundw
        case rel => exact ⟨i + 1, by go_num, by omega, Lib.hid (drewB HW.out _)⟩
        case measure => simp [intOf]; omega
      · have hia : i = a := by omega
        clear hlt
        have HL4 := Lib.hid (HL3.out.trans (HW.out.mono HL3.out.size))
        have HX4 := Lib.hid (HX3.out.later HW.out)
        have HY4 := Lib.hid (HY3.out.later HW.out)
        have hia2 : ¬ (i : Int) < (a : Int) := by omega
        clear hia
        go_wp2_with fail
        go_loopw [15] (fun iv w5 => ∃ i : Nat, iv = .int .i64 i ∧ b ≤ i ∧ i ≤ n ∧ Hid (Below wr.heap.size wr w5)) (fun iv _ => n - (intOf iv).toNat)
        case atStart => exact ⟨b, rfl, Nat.le_refl _, by omega, Lib.hid (Below.refl _ _)⟩
        case round =>
          obtain ⟨i, rfl, hbi, hin', HW5⟩ := hrel
          by_cases hlt2 : i < n
          · have hix : i < x.length := by rw [HX0.out]; exact hlt2
            obtain ⟨k, px, py, hk0, hpx, hpy, hmv3⟩ := E6.out i hix hbi
            have hky : k < y.length := (List.getElem?_eq_some_iff.1 hpy).1
            rw [List.getElem?_eq_getElem hix] at hpx
            rw [List.getElem?_eq_getElem hky] at hpy
            have hkm : k < m := by rw [← HY0.out]; exact hky
            have hkk : k + n = m + i := by rw [← HX0.out, ← HY0.out]; exact hk0
            obtain ⟨g, off, rfl, hg, hat⟩ := pcs_get HX4.out hix
            obtain ⟨g', off', rfl, hg', hat'⟩ := pcs_get HY4.out hky
            obtain ⟨r0, r1, r2, r3⟩ := pc_at k (fun j u hj => (HW5.out.cell (p := ⟨g', off' + j, none⟩) hg').trans (hat' j u hj)) hky
            rw [Option.some.inj hpy] at r0 r1 r2 r3
            have q := pc_at i (fun j u hj => (HW5.out.cell (p := ⟨g, off + j, none⟩) hg).trans (hat j u hj)) hix
            rw [Option.some.inj hpx] at q
            have hpb := HXB.out _ (List.getElem_mem hix)
            rw [Option.some.inj hpx] at hpb
            obtain ⟨zf, ze, zd, zj⟩ := px
            obtain ⟨yf, ye, yd, yj⟩ := py
            obtain ⟨m1, m2, rfl, rfl⟩ := hmv3
            dsimp only at m1 m2 r0 r1 r2 r3 q
            obtain ⟨hzf, hze⟩ := hpb
            dsimp only at hzf hze
            have v1 : IntKind.i64.wrap ((zf : Int) + mv) = (yf : Int) := (IntWalk.i64_in _ (by omega)).trans m1.symm
            have v2 : IntKind.i64.wrap ((ze : Int) + mv) = (ye : Int) := (IntWalk.i64_in _ (by omega)).trans m2.symm
            have v3 : IntKind.i64.wrap ((m : Int) - (n : Int)) = (m : Int) - (n : Int) := IntWalk.i64_in _ (by omega)
            have v4 : IntKind.i64.wrap ((m : Int) - (n : Int) + (i : Int)) = (k : Int) := (IntWalk.i64_in _ (by omega)).trans (by omega)
            have v5 : (0 : Int) ≤ (k : Int) := by omega
            have v6 : (k : Int) < (m : Int) := by omega
            clear hpx hpy m1 m2 hat hat' hky hix hk0 hkk hzf hze
            go_upto_region 20 with fail
            clear r0 r1 r2 r3
            obtain ⟨F, hF⟩ : ∃ F, wr.heap.size = F := ⟨_, rfl⟩
            obtain ⟨W2, hW2⟩ : ∃ W2, wr.alloc (.cells #[.int .i64 yf, .int .i64 ye, .bool yd, .bool yj] 36) = W2 := ⟨_, rfl⟩
            have hFb : W2.heap[F]? = some (.cells #[.int .i64 yf, .int .i64 ye, .bool yd, .bool yj] 36 (0, 0)) := by rw [← hW2, ← hF]; exact World.alloc_heap_new wr _
            have hb5 : Below wr.heap.size wr W2 := by rw [← hW2]; exact (Below.refl _ wr).alloc (Nat.le_refl _) _
            have HL5 := Lib.hid (HW5.out.trans (hb5.mono HW5.out.size))
            have hgw : g < wr.heap.size := Nat.lt_of_lt_of_le hg HW5.out.size
            have q0 := (hb5.cell (p := ⟨g, off + i * 4, none⟩) hgw).trans q.1
            have q1 := (hb5.cell (p := ⟨g, off + i * 4 + 1, none⟩) hgw).trans q.2.1
            have q2 := (hb5.cell (p := ⟨g, off + i * 4 + 2, none⟩) hgw).trans q.2.2.1
            have q3 := (hb5.cell (p := ⟨g, off + i * 4 + 3, none⟩) hgw).trans q.2.2.2
            obtain ⟨k0, k1, k2, k3⟩ := tk_cells hFb
            rw [hF, hW2]
            clear hF hW2 hFb hb5 q hgw
            go_quiet (fail)
            go_wp2_with fail
            go_roundw
            case rel => exact ⟨i + 1, by go_num, by omega, by omega, Lib.hid (drewB HL5.out _)⟩
            case measure => simp [intOf]; omega
          · obtain rfl : i = n := by omega
            have HLE := Lib.hid (HL4.out.trans (HW5.out.mono HL4.out.size))
            have cA := alive_any wr (HT.out.later HLE.out)
            go_wp2_with fail
            refine cA.mono ?_
            rintro e w6 ⟨rfl, hb6⟩
            go_wp2_with fail
            go_ret
            exact ⟨rfl, HLE.out.trans (hb6.mono HLE.out.size)⟩
set_option maxHeartbeats 8000000 in
set_option maxRecDepth 20000 in
theorem edits_any (s t : ByteArray) (p q : Int) (w : World) (hT : Tabs w) : Calls Tryd.prog 5 #[.string s, .agg #[.int .i64 p, .int .i64 q], .string t] w fun e w' => e = .returned (.bool true) ∧ Below w.heap.size w w' := by
  have cA := fun X (hX : Below w.heap.size w X) => alive_any X (hT.later hX)
  by_cases h1 : s.size ≤ 250
  · by_cases h2 : t.size ≤ 250
    · by_cases h3 : 0 ≤ p
      · by_cases h4 : p ≤ q
        · by_cases h5 : q ≤ (s.size : Int)
          · obtain ⟨p, rfl⟩ := Int.eq_ofNat_of_zero_le h3
            obtain ⟨q, rfl⟩ := Int.eq_ofNat_of_zero_le (show 0 ≤ q by omega)
            exact edits_short s t p q w h1 h2 (by omega) (by omega) hT
          · have hz : (s.size : Int) < q := by omega
            go_enter Tryd.func5, Tryd.ntmps5
            go_wp2_with fail
            refine (cA _ ((Below.refl _ _).alloc (Nat.le_refl _) _)).mono ?_
            rintro e w3 ⟨rfl, hb3⟩
            go_wp2_with fail
            go_ret
            exact ⟨rfl, ((Below.refl _ _).alloc (Nat.le_refl _) _).trans (hb3.mono (by simp))⟩
        · have hz : q < p := by omega
          go_enter Tryd.func5, Tryd.ntmps5
          go_wp2_with fail
          refine (cA _ ((Below.refl _ _).alloc (Nat.le_refl _) _)).mono ?_
          rintro e w3 ⟨rfl, hb3⟩
          go_wp2_with fail
          go_ret
          exact ⟨rfl, ((Below.refl _ _).alloc (Nat.le_refl _) _).trans (hb3.mono (by simp))⟩
      · have hz : p < 0 := by omega
        go_enter Tryd.func5, Tryd.ntmps5
        go_wp2_with fail
        refine (cA _ ((Below.refl _ _).alloc (Nat.le_refl _) _)).mono ?_
        rintro e w3 ⟨rfl, hb3⟩
        go_wp2_with fail
        go_ret
        exact ⟨rfl, ((Below.refl _ _).alloc (Nat.le_refl _) _).trans (hb3.mono (by simp))⟩
    · have hz : (250 : Int) < (t.size : Int) := by omega
      go_enter Tryd.func5, Tryd.ntmps5
      go_wp2_with fail
      refine (cA _ ((Below.refl _ _).alloc (Nat.le_refl _) _)).mono ?_
      rintro e w3 ⟨rfl, hb3⟩
      go_wp2_with fail
      go_ret
      exact ⟨rfl, ((Below.refl _ _).alloc (Nat.le_refl _) _).trans (hb3.mono (by simp))⟩
  · have hz : (250 : Int) < (s.size : Int) := by omega
    go_enter Tryd.func5, Tryd.ntmps5
    go_wp2_with fail
    refine (cA _ ((Below.refl _ _).alloc (Nat.le_refl _) _)).mono ?_
    rintro e w3 ⟨rfl, hb3⟩
    go_wp2_with fail
    go_ret
    exact ⟨rfl, ((Below.refl _ _).alloc (Nat.le_refl _) _).trans (hb3.mono (by simp))⟩
end Go.Proofs.YtapjomdplibanaaDoor.Q

/- The contract of package split's Pieces. -/
import Derived.Test.YtapjomdplibanaaDoorQProgP
import Derived.Maps.AppendAt
import Derived.Maps.OwnIn
import Derived.Deep.RegionHeld3
import Derived.Deep.RegionWith
import Derived.BigRegion
namespace Go.Proofs.YtapjomdplibanaaDoor.Q
open Go.RowKit
open Go.Lib hiding intOf
open Go.Proofs.YtapjomdplibanaaDoor.U Go.Proofs.YtapjomdplibanaaDoor.S Go.Proofs.YtapjomdplibanaaDoor.L

/-- What stands between two lines: the list's box, the text's box, the list's row. -/
def Pst (d : Nat) (w : World) (s : ByteArray) (o : Option Nat) (W : World) : Prop :=
  ∃ v, Boxed W d 23 v ∧ Boxed W (d + 1) 9 (.string s) ∧ W.ownsRow d 36 4 v (progL s.toList o).length (pcCs (progL s.toList o)) ∧ Below d w W
theorem pst_own {d : Nat} {w : World} {s : ByteArray} {B : Nat} (hB : d + 1 < B) (hd : d ≤ w.heap.size) : OwnFrom B (fun o W => Pst d w s o W) := by
  rintro _ X Y row ⟨v, h1, h2, h3, h4⟩ hg hr
  have hlt : ∀ k, some k = row → B ≤ k := fun k e => (hr k e.symm).1
  refine ⟨v, h1.kept hg (fun e => by have := hlt _ e; omega), h2.kept hg (fun e => by have := hlt _ e; omega), h3.kept hg ?_, h4.grown hg (Nat.le_trans hd h4.size) (fun k e => by have := hlt _ e.symm; omega)⟩
  rcases h3.2 with ⟨rfl, _⟩ | ⟨g, cap, cur, rfl, _, hgb, _⟩
  · exact .inl rfl
  · refine .inr fun e => ?_
    obtain ⟨_, ob, ho, hc⟩ := hr g (by simpa [Value.ownBlock] using e.symm)
    rw [hgb] at ho; cases ho; cases hc
attribute [local go_sem] Oper.semAt_some
theorem pst_start (w : World) (s : ByteArray) : Pst w.heap.size w s none ((w.alloc (.cells #[.slice none 0 0] 23)).alloc (.cells #[.string s] 9)) := by
  have h2 := Boxed.new (w.alloc (.cells #[.slice none 0 0] 23)) 9 (.string s)
  rw [World.size_alloc] at h2
  exact ⟨_, (Boxed.new w _ _).alloc _, h2, World.ownsRow_nil _ _ _ _, ((Below.refl _ w).alloc (Nat.le_refl _) _).alloc (by simp) _⟩
theorem Pst.later {d : Nat} {w : World} {s : ByteArray} {o : Option Nat} {W W' : World} {v : Value} (h1 : Boxed W d 23 v) (h2 : Boxed W (d + 1) 9 (.string s)) (h3 : W.ownsRow d 36 4 v (progL s.toList o).length (pcCs (progL s.toList o))) (h4 : Below d w W) (hb : Below W.heap.size W W') :
    Boxed W' d 23 v ∧ Boxed W' (d + 1) 9 (.string s) ∧ W'.ownsRow d 36 4 v (progL s.toList o).length (pcCs (progL s.toList o)) ∧ Below d w W' :=
  ⟨(hb.block _ h1.lt).trans h1, (hb.block _ h2.lt).trans h2, owns_later h3 hb, h4.trans (hb.mono (Nat.le_of_lt h1.lt))⟩
theorem prog_len2 {s : By} {o o' : Option Nat} {p q : Nat} (h : NextL s o (p, q) o') (hs : s.length ≤ 1000000) : (progL s o).length ≤ 1000001 := by
  rcases h.2.1 with ⟨rfl, _⟩ | ⟨rfl, _⟩
  · simp [progL]
  · have h1 := progL_len s p
    have h2 := h.1.pq
    have h3 := h.1.ql
    dsimp only at h1 h2 h3 ⊢
    omega
theorem keeps_below {W W' : World} (hb : Below W.heap.size W W') : KeepsOthers W W' := ⟨hb.size, fun k _ hk _ => (hb.block k (Array.getElem?_eq_some_iff.1 hk).1).trans hk⟩
/-- Behind the store into the last piece. -/
theorem pst_set {d : Nat} {w : World} {s : ByteArray} {o' : Option Nat} {W : World} {g n c m q : Nat} {L : List PcP} {x : PcP} (h1 : Boxed W d 23 (.slice (some ⟨g, 0, none⟩) n c)) (h2 : Boxed W (d + 1) 9 (.string s)) (h3 : W.ownsRow d 36 4 (.slice (some ⟨g, 0, none⟩) n c) n (pcCs (L ++ [x]))) (h4 : Below d w W) (hm : L.length = m) (hn : m + 1 = n) (ho : progL s.toList o' = L ++ [⟨x.f, q, x.d, x.j⟩]) :
    Pst d w s o' (W.setCell ⟨g, m * 4 + 1, none⟩ (.int .i64 q)) ∧ KeepsOthers W (W.setCell ⟨g, m * 4 + 1, none⟩ (.int .i64 q)) ∧ (W.setCell ⟨g, m * 4 + 1, none⟩ (.int .i64 q)).heap[d + 1]? = W.heap[d + 1]? := by
  obtain ⟨h5, h6⟩ := h3.stored (m * 4 + 1) (.int .i64 q)
  have hg := h3.lt g rfl
  have hb1 := h1.not_row (by decide) h3
  have hb2 := h2.not_row (by decide) h3
  have h2' := h2.kept h6 (by simpa [Value.ownBlock] using hb2)
  refine ⟨⟨_, h1.kept h6 (by simpa [Value.ownBlock] using hb1), h2', ?_, h4.grown h6 (Nat.le_trans h4.size (Nat.le_refl _) |> fun h => by have := h1.lt; omega) (fun k e => by cases e; exact hg.1)⟩, KeepsOthers.setCell _ _ _, h2'.trans h2.symm⟩
  rw [ho]
  rw [← hm, pcCs_setE] at h5
  have hl : (L ++ [(⟨x.f, q, x.d, x.j⟩ : PcP)]).length = n := by simp; omega
  rw [hl, ← hm]
  exact h5
set_option maxHeartbeats 8000000 in
set_option maxRecDepth 20000 in
theorem pieces_any (s : ByteArray) (w : World) (hs : s.size ≤ 1000000) (hT : Tabs w) :
    Calls Tryd.prog 8 #[.string s] w fun e w' => ∃ v, e = .returned v ∧ PcsIn w.heap.size w' (pieces s.toList) v ∧ Below w.heap.size w w' := by
  obtain ⟨d, hd⟩ : ∃ d, w.heap.size = d := ⟨_, rfl⟩
  refine (callsIn_wide (n := 4)).1 ?_
  refine callsIn_of_wp_marks Tryd.func8 rfl trivial ?_ rfl
  simp only [Tryd.ntmps8, List.size_toArray, List.length_cons, List.length_nil, Nat.reduceAdd, Nat.reduceSub, Array.replicate_succ, Array.replicate_zero, List.push_toArray, List.append_toArray, List.nil_append, List.cons_append]
  refine wpIn_wide.2 ?_
  have c1 := fun X => lines_make s X
  go_wp2_with (go_at_call 17; refine (c1 _).mono ?_; rintro e w' ⟨rfl, rfl⟩)
  have HP0 := pst_start w s
  rw [hd] at HP0
  obtain ⟨W0, hW0⟩ : ∃ W0, (w.alloc (.cells #[.slice none 0 0] 23)).alloc (.cells #[.string s] 9) = W0 := ⟨_, rfl⟩
  have hz0 : W0.heap.size = d + 2 := by rw [← hW0]; simp [hd]
  have hk0 : W0.heap[d + 1]? = some (.cells #[.string s] 9 (0, 0)) := by
    obtain ⟨_, _, h, _⟩ := HP0
    rw [hW0] at h
    exact h
  rw [hW0] at HP0 ⊢
  clear hW0 c1
  refine wp_steps (gf := 26) (lb := #[.pointer (some ⟨d + 1, 0, none⟩)]) rfl (enters_of Tryd.func26 (by kernel_rfl) rfl) (lines_steps s (d + 1) W0 hk0 (by omega)) (Below.refl _ _) (by omega) (fun _ => rfl) (Pst d w s) (pst_own (by omega) (by omega)) HP0
    (fun x => { tmps := #[.string s, undef, .slice none 0 0, .pointer (some ⟨d, 0, none⟩), .int .i64 x.1, .string (s.extract x.1 x.2), undef, undef, .string s, .func (.func 26) #[] #[.pointer (some ⟨d + 1, 0, none⟩)], .int .i64 x.1, .string (s.extract x.1 x.2), undef, undef, undef, undef, undef, undef, undef, undef, undef, undef, undef, undef, undef, undef, undef, undef, undef, undef, undef, undef, undef, undef, undef, undef, undef, undef, undef, undef, undef, undef, undef, undef, undef, undef, undef, undef, undef, undef, undef, undef], defers := [] }) ?assign ?body ?done
  case assign =>
    intro l x W K hK
    dsimp only [encL]
    gi_wp2
    exact hK
  case body =>
    rintro l o ⟨p, q⟩ o' W hN ⟨v, hv, hk, hrow, hB⟩
    dsimp only
    obtain ⟨hl, _⟩ := id hN
    dsimp only at hl
    have hql := hl.ql
    rw [tl_len] at hql
    have hpq := hl.pq
    obtain ⟨y, hy⟩ : ∃ y, s.extract p q = y := ⟨_, rfl⟩
    have hyz : y.size = q - p := by rw [← hy, size_extract s p q hpq hql]
    have hyb : declW y.toList = beg s.toList p := by rw [← hy, S.ext_list]; exact decl_line hl
    have cD := declares_any y W (by omega) (hT.later (by rw [hd]; exact hB))
    rw [hyb] at cD
    have e1 : IntKind.i64.wrap ((p : Int) + (y.size : Int)) = (q : Int) := (IntWalk.i64_in _ (by omega)).trans (by omega)
    rw [hy]
    have HN := Lib.hid hN
    have HA := Lib.hid (fun W' hb => Pst.later (W' := W') hv hk hrow hB hb)
    have hkW : W.heap[d + 1]? = some (.cells #[.string s] 9 (0, 0)) := hk
    clear hN hl hy hyb hv hk hrow hB
    obtain ⟨b, hb⟩ : ∃ b, beg s.toList p = b := ⟨_, rfl⟩
    rw [hb] at cD
    obtain ⟨i0, hi0, hz0', hz1, hz2⟩ := info_parts infoP
    gi_wp2
    refine ⟨trivial, ?_⟩
    refine (CallsIn.inRound l (callsIn_wide.2 cD)).mono ?_
    rintro e W1 ⟨rfl, hb1⟩
    obtain ⟨hv1, hk1, hr1, hB1⟩ := HA.out W1 hb1
    have HKO := Lib.hid (keeps_below hb1)
    have HKW : Hid (W.heap[d + 1]? = some (.cells #[.string s] 9 (0, 0))) := Lib.hid hkW
    clear hkW
    clear hb1 cD HA
    cases b
    · by_cases hp0 : p = 0
      · subst hp0
        obtain rfl : q = y.size := by omega
        clear hyz e1
        have HO := Lib.hid (prog_new HN.out (.inr rfl))
        rw [hb] at HO
        have hlen : (progL s.toList o).length ≤ 1000001 := prog_len2 HN.out (by rw [tl_len]; exact hs)
        obtain ⟨L, hL⟩ : ∃ L, progL s.toList o = L := ⟨_, rfl⟩
        rw [hL] at HO hr1 hlen
        obtain ⟨m, hm⟩ : ∃ m, L.length = m := ⟨_, rfl⟩
        have HM := Lib.hid hm
        rw [hm] at hr1 hlen
        obtain ⟨va, vc, rfl⟩ := owns_len hr1
        have hc := hv1.cell
        have HV1 := Lib.hid hv1
        have HK1 := Lib.hid hk1
        have HR1 := Lib.hid hr1
        have HB1 := Lib.hid hB1
        clear hb hL hm hv1 hk1 hr1 hB1
        have hdW1 := HV1.out.lt
        gi_wp2_with (gi_at_builtin; refine wpListIn_append_own _ rfl _ _ 23 rfl d 36 i0 (.agg #[.int .i64 0, .int .i64 0, .bool false, .bool false]) 4 24 Tryd.underlying23 hi0 hz0' hz1 hz2 rfl (by decide) _ _ _ rfl (HR1.out.alloc _) ⟨W1.heap.size, 0, none⟩ 1 1 (pcCs [⟨0, 0, false, false⟩]) rfl rfl ?c1 (plain_pcs _) ?c3 ?c4 ?c5 ?_)
        case c1 => exact new_pc _ _ _ _ _ _
        case c3 => unfold maxLen; omega
        case c4 => omega
        case c5 => rw [World.size_alloc]; omega
        intro v3 w3 hown hgrow _
        obtain ⟨g, c, rfl⟩ := ownsRow_succ hown
        obtain ⟨n, hn⟩ : ∃ n, m + 1 = n := ⟨_, rfl⟩
        rw [hn] at hown ⊢
        obtain ⟨hv3, hv4, hr4, hk4, hb4⟩ := HV1.out.appended (by decide) HR1.out (Nat.le_of_lt hdW1) (Nat.le_refl _) hown hgrow
        rw [← pcCs_app] at hr4
        have hkk : Boxed (w3.setCell ⟨d, 0, none⟩ (.slice (some ⟨g, 0, none⟩) n c)) (d + 1) 9 (.string s) := ((HK1.out.alloc _).kept hgrow (HK1.out.not_row (by decide) HR1.out)).kept (grownBy_setCell' w3 d _) (by simp)
        have hps := pst_set (q := y.size) hv4 hkk hr4 (HB1.out.trans hb4) HM.out hn HO.out
        have c3 := hv3.cell
        have f3 := hv3.frozen
        have c4 := hv4.cell
        have c5 : (w3.setCell ⟨d, 0, none⟩ (.slice (some ⟨g, 0, none⟩) n c)).cell? ⟨g, m * 4 + 1, none⟩ = some (.int .i64 0) := by
          rw [hr4.cellAt (m * 4 + 1) (by omega), ← HM.out, pcCs_app, List.getElem?_append_right (by rw [pcCs_length]; omega), pcCs_length, show L.length * 4 + 1 - 4 * L.length = 1 by omega]
          rfl
        have f5 := hr4.frozenAt (m * 4 + 1)
        have HPS := Lib.hid hps
        have HKO2 := Lib.hid ((HKO.out.trans hk4).trans hps.2.1)
        have HKK := Lib.hid hkk
        have hmn : (m : Int) < (n : Int) := by omega
        have hm0 : (0 : Int) ≤ (m : Int) := by omega
        have hn0 : 0 < n := by omega
        have hi1 : IntKind.i64.wrap ((n : Int) - 1) = (m : Int) := (IntWalk.i64_in _ (by omega)).trans (by omega)
        clear hown hgrow hv3 hv4 hr4 hk4 hb4 hkk hps hc hn
        gi_wp2
        exact ⟨HKO2.out, HPS.out.2.2.trans (Eq.trans HKK.out HKW.out.symm), HPS.out.1⟩
      · clear hyz
        obtain ⟨L, x, hL1, hL2⟩ := prog_on HN.out hb hp0
        have hlen := prog_len2 HN.out (by rw [tl_len]; exact hs)
        rw [hL1] at hr1 hlen
        obtain ⟨m, hm⟩ : ∃ m, L.length = m := ⟨_, rfl⟩
        obtain ⟨n, hn⟩ : ∃ n, (L ++ [x]).length = n := ⟨_, rfl⟩
        have hmn' : m + 1 = n := by rw [← hn, ← hm]; simp
        rw [hn] at hr1 hlen
        obtain ⟨g, c, rfl, _, _, _⟩ := row_some hr1 (by omega)
        have hps := pst_set (q := q) hv1 hk1 hr1 hB1 hm hmn' hL2
        have hc := hv1.cell
        have c5 : W1.cell? ⟨g, m * 4 + 1, none⟩ = some (.int .i64 x.e) := by
          rw [hr1.cellAt (m * 4 + 1) (by omega), ← hm, pcCs_app, List.getElem?_append_right (by rw [pcCs_length]; omega), pcCs_length, show L.length * 4 + 1 - 4 * L.length = 1 by omega]
          rfl
        have f5 := hr1.frozenAt (m * 4 + 1)
        have HPS := Lib.hid hps
        have HKO2 := Lib.hid (HKO.out.trans hps.2.1)
        have HKK := Lib.hid hk1
        have hmn : (m : Int) < (n : Int) := by omega
        have hm0 : (0 : Int) ≤ (m : Int) := by omega
        have hn0 : 0 < n := by omega
        have hi1 : IntKind.i64.wrap ((n : Int) - 1) = (m : Int) := (IntWalk.i64_in _ (by omega)).trans (by omega)
        have hpd : decide (p = 0) = false := by simpa using hp0
        clear hb hL1 hL2 hm hn hmn' hv1 hk1 hr1 hB1 hps
        gi_wp2
        exact ⟨HKO2.out, HPS.out.2.2.trans (Eq.trans HKK.out HKW.out.symm), HPS.out.1⟩
    · clear hyz
      have HO := Lib.hid (prog_new HN.out (.inl hb))
      rw [hb] at HO
      have hlen : (progL s.toList o).length ≤ 1000001 := prog_len2 HN.out (by rw [tl_len]; exact hs)
      obtain ⟨L, hL⟩ : ∃ L, progL s.toList o = L := ⟨_, rfl⟩
      rw [hL] at HO hr1 hlen
      obtain ⟨m, hm⟩ : ∃ m, L.length = m := ⟨_, rfl⟩
      have HM := Lib.hid hm
      rw [hm] at hr1 hlen
      obtain ⟨va, vc, rfl⟩ := owns_len hr1
      have hc := hv1.cell
      have HV1 := Lib.hid hv1
      have HK1 := Lib.hid hk1
      have HR1 := Lib.hid hr1
      have HB1 := Lib.hid hB1
      clear hb hL hm hv1 hk1 hr1 hB1
      have hdW1 := HV1.out.lt
      gi_wp2_with (gi_at_builtin; refine wpListIn_append_own _ rfl _ _ 23 rfl d 36 i0 (.agg #[.int .i64 0, .int .i64 0, .bool false, .bool false]) 4 24 Tryd.underlying23 hi0 hz0' hz1 hz2 rfl (by decide) _ _ _ rfl (HR1.out.alloc _) ⟨W1.heap.size, 0, none⟩ 1 1 (pcCs [⟨p, 0, true, false⟩]) rfl rfl ?c1 (plain_pcs _) ?c3 ?c4 ?c5 ?_)
      case c1 => exact new_pc _ _ _ _ _ _
      case c3 => unfold maxLen; omega
      case c4 => omega
      case c5 => rw [World.size_alloc]; omega
      intro v3 w3 hown hgrow _
      obtain ⟨g, c, rfl⟩ := ownsRow_succ hown
      obtain ⟨n, hn⟩ : ∃ n, m + 1 = n := ⟨_, rfl⟩
      rw [hn] at hown ⊢
      obtain ⟨hv3, hv4, hr4, hk4, hb4⟩ := HV1.out.appended (by decide) HR1.out (Nat.le_of_lt hdW1) (Nat.le_refl _) hown hgrow
      rw [← pcCs_app] at hr4
      have hkk : Boxed (w3.setCell ⟨d, 0, none⟩ (.slice (some ⟨g, 0, none⟩) n c)) (d + 1) 9 (.string s) := ((HK1.out.alloc _).kept hgrow (HK1.out.not_row (by decide) HR1.out)).kept (grownBy_setCell' w3 d _) (by simp)
      have hps := pst_set (q := q) hv4 hkk hr4 (HB1.out.trans hb4) HM.out hn HO.out
      have c3 := hv3.cell
      have f3 := hv3.frozen
      have c4 := hv4.cell
      have c5 : (w3.setCell ⟨d, 0, none⟩ (.slice (some ⟨g, 0, none⟩) n c)).cell? ⟨g, m * 4 + 1, none⟩ = some (.int .i64 0) := by
        rw [hr4.cellAt (m * 4 + 1) (by omega), ← HM.out, pcCs_app, List.getElem?_append_right (by rw [pcCs_length]; omega), pcCs_length, show L.length * 4 + 1 - 4 * L.length = 1 by omega]
        rfl
      have f5 := hr4.frozenAt (m * 4 + 1)
      have HPS := Lib.hid hps
      have HKO2 := Lib.hid ((HKO.out.trans hk4).trans hps.2.1)
      have HKK := Lib.hid hkk
      have hmn : (m : Int) < (n : Int) := by omega
      have hm0 : (0 : Int) ≤ (m : Int) := by omega
      have hn0 : 0 < n := by omega
      have hi1 : IntKind.i64.wrap ((n : Int) - 1) = (m : Int) := (IntWalk.i64_in _ (by omega)).trans (by omega)
      clear hown hgrow hv3 hv4 hr4 hk4 hb4 hkk hps hc hn
      gi_wp2
      exact ⟨HKO2.out, HPS.out.2.2.trans (Eq.trans HKK.out HKW.out.symm), HPS.out.1⟩
  case done =>
    rintro D o W hD rfl ⟨v, hv, hk, hrow, hB⟩ hK
    obtain ⟨x, r, hx, hp, hxe, hxj⟩ := prog_end s.toList
    rw [tl_len] at hx hxe
    rw [hx] at hrow
    obtain ⟨n, hn⟩ : ∃ n, (x :: r).length = n := ⟨_, rfl⟩
    have hn0 : 0 < n := by rw [← hn]; simp
    rw [hn] at hrow
    obtain ⟨g, c, rfl, hnc, _, hgw⟩ := row_some hrow hn0
    have hc := hv.cell
    have hat : ∀ j u, (pcCs (x :: r))[j]? = some u → j < n * 4 → W.cell? ⟨g, j, none⟩ = some u := fun j u h1 h2 => by rw [hrow.cellAt j h2]; exact h1
    have q0 := hat 0 _ rfl (by omega)
    have q1 := hat 1 _ rfl (by omega)
    have q2 := hat 2 _ rfl (by omega)
    have q3 := hat 3 _ rfl (by omega)
    have HV := Lib.hid hv
    have HR := Lib.hid hrow
    have HB := Lib.hid hB
    have HK := Lib.hid hK
    have HP := Lib.hid hp
    have HXE := Lib.hid hxe
    obtain ⟨f, e, b, jj⟩ := x
    dsimp only at hxj hxe hp
    subst hxj
    have HN0 := Lib.hid hn
    clear hat hv hk hrow hB hK hp hx hn
    go_upto_region 10 with fail
    clear q0 q1 q2 q3 hc
    obtain ⟨F, hF⟩ : ∃ F, W.heap.size = F := ⟨_, rfl⟩
    obtain ⟨W2, hW2⟩ : ∃ W2, W.alloc (.cells #[.int .i64 f, .int .i64 e, .bool b, .bool false] 36) = W2 := ⟨_, rfl⟩
    have hbW : Below W.heap.size W W2 := by rw [← hW2]; exact (Below.refl _ W).alloc (Nat.le_refl _) _
    have hFb : W2.heap[F]? = some (.cells #[.int .i64 f, .int .i64 e, .bool b, .bool false] 36 (0, 0)) := by rw [← hW2, ← hF]; exact World.alloc_heap_new W _
    have hD2 : D < W.heap.size := (Array.getElem?_eq_some_iff.1 HK.out).1
    have HK2 : Hid (W2.heap[D]? = some (.deferred (some []))) := Lib.hid ((hbW.block D hD2).trans HK.out)
    have HR2 := Lib.hid (owns_later HR.out hbW)
    have HV2 : Hid (Boxed W2 d 23 (.slice (some ⟨g, 0, none⟩) n c)) := Lib.hid ((hbW.block d HV.out.lt).trans HV.out)
    have HB2 : Hid (Below d w W2) := Lib.hid (HB.out.trans (hbW.mono (Nat.le_of_lt HV.out.lt)))
    have k0 := HV2.out.cell
    have k1 : W2.cell? ⟨F, 1, none⟩ = some (.int .i64 e) := by simp [World.cell?, hFb]
    have k2 : W2.cell? ⟨F, 2, none⟩ = some (.bool b) := by simp [World.cell?, hFb]
    have hfin : ∀ (v : Value) (X : World) (l : List PcP), X.heap[D]? = some (.deferred (some [])) → X.ownsRow d 36 4 v n (pcCs l) → l.length = n → Below d w X → PcsIn w.heap.size (X.putObj D (.deferred none)) l v ∧ Below w.heap.size w (X.putObj D (.deferred none)) := fun v X l h1 h2 h3 h4 =>
      ⟨pcs_row (ownsRow_putObj h2 _ h1 rfl) h3 (by omega), by
        rw [hd]
        exact h4.trans (belowK_b (w := w) (by omega) X D _ _ (by omega) h1 rfl rfl)⟩
    have HFIN := Lib.hid hfin
    have HFB := Lib.hid hFb
    have q3 := HR2.out.cellAt 3 (by omega)
    have f3 := HR2.out.frozenAt 3
    have hgw2 := (HR2.out.lt g rfl).2
    rw [hF, hW2]
    have HDE := Lib.hid hd
    have HDW : Hid (d ≤ w.heap.size) := Lib.hid (by omega)
    have HDL : Hid (D < W2.heap.size) := Lib.hid (by have := hbW.size; omega)
    have HGD : Hid (g ≠ D) := Lib.hid (by
      rintro rfl
      have h1 := HK.out
      rcases HR.out.2 with ⟨h2, _⟩ | ⟨g', cap, cur, h2, _, hgb, _⟩
      · cases h2
      · cases h2
        rw [h1] at hgb; cases hgb)
    clear hbW hFb hD2 hfin hd hW2 hF hgw
    cases b
    · obtain ⟨k, hk⟩ : ∃ k, (scanB (okB (s.extract 0 e)) (s.extract 0 e).toList).length = k := ⟨_, rfl⟩
      have hxe : e ≤ s.size := HXE.out
      have HP2 : Hid (pieces s.toList = ⟨f, e, false, decide (0 < k)⟩ :: r) := Lib.hid (by
        rw [HP.out]
        have h : hw (s.toList.take e) = decide (0 < k) := by
          unfold hw
          have h2 : s.toList.take e = (s.extract 0 e).toList := by rw [S.ext_list, List.drop_zero, Nat.sub_zero]
          rw [h2, tl_mk, ← hk]
          cases scanB (okB (s.extract 0 e)) (s.extract 0 e).toList <;> simp
        simp [h])
      have hd0 : d ≤ w.heap.size := HDW.out
      have cS : ∀ X, Below W2.heap.size W2 X → Calls Tryd.prog 19 #[.string (s.extract 0 e)] X fun e' w' => ∃ a cp, e' = .returned (.slice a k cp) ∧ (w'.cell? ⟨d, 0, none⟩ = some (.slice (some ⟨g, 0, none⟩) n c) ∧ w'.cell? ⟨F, 1, none⟩ = some (.int .i64 e) ∧ w'.cell? ⟨g, 3, none⟩ = some (.bool false) ∧ w'.frozen? ⟨g, 3, none⟩ = false) ∧ Hid (Below W2.heap.size W2 w') := fun X hX => by
        refine (scan_any (s.extract 0 e) X (by rw [ByteArray.size_extract]; omega) (hT.later ((HB2.out.trans (hX.mono (Nat.le_of_lt HV2.out.lt))).mono (Nat.le_refl _) |> fun h => by rw [HDE.out]; exact h))).mono ?_
        rintro e' w' ⟨v, rfl, hv, hb⟩
        have hb2 := hX.trans (hb.mono hX.size)
        obtain ⟨a, cp, rfl, _, _⟩ := hv
        rw [hk]
        refine ⟨a, cp, rfl, ⟨(hb2.cell (p := ⟨d, 0, none⟩) HV2.out.lt).trans k0, (hb2.cell (p := ⟨F, 1, none⟩) (Array.getElem?_eq_some_iff.1 HFB.out).1).trans k1, (hb2.cell (p := ⟨g, 3, none⟩) hgw2).trans q3, ?_⟩, Lib.hid hb2⟩
        rw [← f3]
        simp only [World.frozen?, hb2.block g hgw2]
      have hsl0 : (0 : Int) ≤ (e : Int) := by omega
      have hsl1 : (e : Int) ≤ (s.size : Int) := by omega
      clear hk hd0
      by_cases hk0 : 0 < k
      · have hkd : decide (0 < k) = true := by simpa using hk0
        rw [hkd] at HP2
        go_upto_region 11 with fail
        refine wp_mono (Q := Exit.then _ (fun _ _ _ => False)) ?_ (fun e a w h => by
          cases e
          · exact h
          all_goals exact h.elim)
        go_region_with (first
          | (go_at_call 19; (with_reducible refine (cS _ ?_).mono ?_); (exact ⟨rfl, rfl, rfl, Nat.le_refl _, fun _ _ => rfl⟩); rintro e3 w6 ⟨a6, c6, rfl, ⟨p0, p1, p2, p3⟩, HB6⟩))
        all_goals
          have hr6 := (owns_later HR2.out HB6.out).stored 3 (.bool true)
          have hv6 : Boxed w6 d 23 (.slice (some ⟨g, 0, none⟩) n c) := (HB6.out.block d HV2.out.lt).trans HV2.out
          have hv7 := hv6.kept hr6.2 (by simpa [Value.ownBlock] using hv6.not_row (by decide) (owns_later HR2.out HB6.out))
          have hc7 := hv7.cell
          have hr7 := hr6.1
          rw [pcCs_setJ] at hr7
          have HR7 := Lib.hid hr7
          have HB7 : Hid (Below d w (w6.setCell ⟨g, 3, none⟩ (.bool true))) := Lib.hid ((HB2.out.trans (HB6.out.mono (Nat.le_of_lt HV2.out.lt))).grown hr6.2 (by have h1 := HB6.out.size; have h2 := HV2.out.lt; omega) (fun k' e => by cases e; exact ((owns_later HR2.out HB6.out).lt g rfl).1))
          have HK7 : Hid ((w6.setCell ⟨g, 3, none⟩ (.bool true)).heap[D]? = some (.deferred (some []))) := Lib.hid (by
            rw [Below.heap_setCell _ _ _ _ (fun e => HGD.out e.symm)]
            exact (HB6.out.block D HDL.out).trans HK2.out)
          clear p0 p1 p2 p3 hr6 hr7 hv6 hv7 k0 k1 k2 q3 f3 cS
          go_wp2_with fail
          refine ⟨by simp, .inl ⟨_, _, rfl, run_takeDeferred HK7.out, ?_⟩⟩
          rw [HP2.out]
          exact ⟨_, results_tmp rfl _ _ _, .slice (some ⟨g, 0, none⟩) n c, rfl, HFIN.out (.slice (some ⟨g, 0, none⟩) n c) _ _ HK7.out HR7.out HN0.out HB7.out⟩
      · obtain rfl : k = 0 := by omega
        have hkd : decide (0 < 0) = false := rfl
        rw [hkd] at HP2
        clear hkd hk0
        go_upto_region 11 with fail
        refine wp_mono (Q := Exit.then _ (fun _ _ _ => False)) ?_ (fun e a w h => by
          cases e
          · exact h
          all_goals exact h.elim)
        go_region_with (first
          | (go_at_call 19; (with_reducible refine (cS _ ?_).mono ?_); (exact ⟨rfl, rfl, rfl, Nat.le_refl _, fun _ _ => rfl⟩); rintro e3 w6 ⟨a6, c6, rfl, ⟨p0, p1, p2, p3⟩, HB6⟩))
        all_goals
          have hr6 := (owns_later HR2.out HB6.out).stored 3 (.bool false)
          have hv6 : Boxed w6 d 23 (.slice (some ⟨g, 0, none⟩) n c) := (HB6.out.block d HV2.out.lt).trans HV2.out
          have hv7 := hv6.kept hr6.2 (by simpa [Value.ownBlock] using hv6.not_row (by decide) (owns_later HR2.out HB6.out))
          have hc7 := hv7.cell
          have hr7 := hr6.1
          rw [pcCs_setJ] at hr7
          have HR7 := Lib.hid hr7
          have HB7 : Hid (Below d w (w6.setCell ⟨g, 3, none⟩ (.bool false))) := Lib.hid ((HB2.out.trans (HB6.out.mono (Nat.le_of_lt HV2.out.lt))).grown hr6.2 (by have h1 := HB6.out.size; have h2 := HV2.out.lt; omega) (fun k' e => by cases e; exact ((owns_later HR2.out HB6.out).lt g rfl).1))
          have HK7 : Hid ((w6.setCell ⟨g, 3, none⟩ (.bool false)).heap[D]? = some (.deferred (some []))) := Lib.hid (by
            rw [Below.heap_setCell _ _ _ _ (fun e => HGD.out e.symm)]
            exact (HB6.out.block D HDL.out).trans HK2.out)
          clear p0 p1 p2 p3 hr6 hr7 hv6 hv7 k0 k1 k2 q3 f3 cS
          go_wp2_with fail
          refine ⟨by simp, .inl ⟨_, _, rfl, run_takeDeferred HK7.out, ?_⟩⟩
          rw [HP2.out]
          exact ⟨_, results_tmp rfl _ _ _, .slice (some ⟨g, 0, none⟩) n c, rfl, HFIN.out (.slice (some ⟨g, 0, none⟩) n c) _ _ HK7.out HR7.out HN0.out HB7.out⟩
    · go_wp2_with fail
      refine ⟨by simp, .inl ⟨_, _, rfl, run_takeDeferred HK2.out, ?_⟩⟩
      have HP2 : pieces s.toList = ⟨f, e, true, false⟩ :: r := by rw [HP.out]; rfl
      rw [HP2]
      exact ⟨_, results_tmp rfl _ _ _, .slice (some ⟨g, 0, none⟩) n c, rfl, HFIN.out (.slice (some ⟨g, 0, none⟩) n c) _ _ HK2.out HR2.out HN0.out HB2.out⟩
end Go.Proofs.YtapjomdplibanaaDoor.Q

/- Law SplitLists of layer 9. -/
import Derived.Test.YtapjomdplibanaaDoorQAlive
namespace Go.Proofs.YtapjomdplibanaaDoor.Q
open Go.RowKit
open Go.Lib hiding intOf
open Go.Proofs.YtapjomdplibanaaDoor.U Go.Proofs.YtapjomdplibanaaDoor.S Go.Proofs.YtapjomdplibanaaDoor.L

/-- Numbers that came in. -/
def IntsIn (W : World) (zs : List Int) (v : Value) : Prop := ∃ a cap, v = .slice a zs.length cap ∧ (zs = [] ∨ ∃ g off, a = some ⟨g, off, none⟩ ∧ g < W.heap.size ∧ ∀ i (h : i < zs.length), W.cell? ⟨g, off + i, none⟩ = some (.int .i64 zs[i]))
theorem and_31 (z : Int) : ∃ q : Nat, bits BinOp.and .i64 z 31 = (q : Int) ∧ q ≤ 31 := by
  refine ⟨(BitVec.ofInt 64 z &&& BitVec.ofInt 64 31).toNat, ?_, ?_⟩
  · have h : (BitVec.ofInt 64 z &&& BitVec.ofInt 64 31).toNat ≤ 31 := by
      rw [BitVec.toNat_and]
      exact Nat.le_trans Nat.and_le_right (by decide)
    show IntKind.i64.wrap (((BitVec.ofInt 64 z &&& BitVec.ofInt 64 31).toNat : Nat) : Int) = _
    exact IntWalk.i64_in _ (by omega)
  · rw [BitVec.toNat_and]
    exact Nat.le_trans Nat.and_le_right (by decide)
theorem next_bnd {f i q m : Nat} (h : f ≤ 32 * i) (hq : q ≤ 31) (hm : f + 1 + q = m) : f ≤ m ∧ m ≤ 32 * (i + 1) := by omega
theorem rows_apart {W : World} {B B' n n' size size' : Nat} {e e' : TypeId} {v v' : Value} {xs xs' : List Value} (h : W.ownsRow B e size v n xs) (h' : W.ownsRow B' e' size' v' n' xs') (hne : e' ≠ e := by decide) : v'.ownBlock = none ∨ v'.ownBlock ≠ v.ownBlock := by
  rcases h'.2 with ⟨rfl, _⟩ | ⟨g', cap', cur', rfl, _, hg', _⟩
  · exact .inl rfl
  · refine .inr fun he => ?_
    rcases h.2 with ⟨rfl, _⟩ | ⟨g, cap, cur, rfl, _, hg, _⟩
    · cases he
    · simp only [Value.ownBlock, Option.some.injEq] at he
      subst he
      rw [hg] at hg'
      simp only [Option.some.injEq, Obj.cells.injEq] at hg'
      exact hne hg'.2.1.symm
theorem fol_snoc : ∀ {l : List PcP} {a e : Nat} {d j : Bool}, Fol a l → endE a l ≤ e → Fol a (l ++ [⟨endE a l, e, d, j⟩]) ∧ endE a (l ++ [⟨endE a l, e, d, j⟩]) = e
  | [], _, _, _, _, _, h => ⟨⟨rfl, h, trivial⟩, rfl⟩
  | _ :: r, _, _, _, _, h, h2 => by
    obtain ⟨h3, h4⟩ := fol_snoc (l := r) h.2.2 h2
    exact ⟨⟨h.1, h.2.1, h3⟩, h4⟩
set_option maxHeartbeats 8000000 in
set_option maxRecDepth 20000 in
theorem lists_short (zs : List Int) (v : Value) (x y : Int) (w : World) (h : IntsIn w zs v) (hs : zs.length ≤ 40) (hT : Tabs w) : Calls Tryd.prog 6 #[v, .int .i64 x, .int .i64 y] w fun e w' => e = .returned (.bool true) ∧ Below w.heap.size w w' := by
  obtain ⟨i0, hi0, hz0, hz1, hz2⟩ := info_parts infoP
  obtain ⟨j0, hj0, jz0, jz1, jz2⟩ := info_parts infoR
  obtain ⟨a, cap, rfl, hc⟩ := h
  obtain ⟨n, hn⟩ : ∃ n, zs.length = n := ⟨_, rfl⟩
  have HN := Lib.hid hn
  have HC := Lib.hid hc
  rw [hn] at hs ⊢
  clear hc hn
  go_enter Tryd.func6, Tryd.ntmps6
  go_wp2_with fail
  go_loopw [7, 8, 9, 10] (fun xv yv fv iv wr => ∃ (i f : Nat) (P : List PcP), fv = .int .i64 f ∧ iv = .int .i64 i ∧ i ≤ n ∧ f ≤ 32 * i ∧ P.length = i ∧ Hid (Fol 0 P ∧ endE 0 P = f) ∧ Hid (wr.ownsRow w.heap.size 36 4 xv i (pcCs P)) ∧ Hid (wr.ownsRow w.heap.size 42 4 yv i (pcCs P)) ∧ Hid (Below w.heap.size w wr)) (fun _ _ _ iv _ => n - (intOf iv).toNat)
  case atStart => exact ⟨0, 0, [], rfl, rfl, Nat.zero_le _, Nat.le_refl _, rfl, Lib.hid ⟨trivial, rfl⟩, Lib.hid (World.ownsRow_nil _ _ _ _), Lib.hid (World.ownsRow_nil _ _ _ _), Lib.hid (Below.refl _ _)⟩
  case round =>
    obtain ⟨i, f, P, rfl, rfl, hi, hf, hP, HF, HX, HY, HL⟩ := hrel
    obtain ⟨xa, xc, rfl⟩ := owns_len HX.out
    obtain ⟨ya, yc, rfl⟩ := owns_len HY.out
    by_cases hlt : i < n
    · have hil : i < zs.length := by rw [HN.out]; exact hlt
      obtain ⟨g, off, rfl, hg, hat⟩ := HC.out.resolve_left (fun h => by rw [h] at hil; exact Nat.not_lt_zero _ hil)
      have hz := (HL.out.cell (p := ⟨g, off + i, none⟩) hg).trans (hat i hil)
      obtain ⟨z, hz'⟩ : ∃ z, zs[i] = z := ⟨_, rfl⟩
      rw [hz'] at hz
      clear hat hz'
      go_upto_region 10 with fail
      obtain ⟨q, hq, hq31⟩ := and_31 z
      have e1 : wrap64 ((f : Int) + 1 + (q : Int)) = ((f + 1 + q : Nat) : Int) := (IntWalk.wrap64_in _ (by omega)).trans (by omega)
      rw [hq, e1]
      obtain ⟨m, hm⟩ : ∃ m, f + 1 + q = m := ⟨_, rfl⟩
      rw [hm]
      have hfm := (next_bnd hf hq31 hm).1
      have hmb := (next_bnd hf hq31 hm).2
      clear hq e1 hm hq31 hz
      have HFF : Hid (Fol 0 (P ++ [⟨f, m, true, false⟩]) ∧ endE 0 (P ++ [⟨f, m, true, false⟩]) = m) := Lib.hid (by
        obtain ⟨h1, h2⟩ := HF.out
        have := fol_snoc (d := true) (j := false) h1 (e := m) (by omega)
        rw [h2] at this
        exact this)
      go_wp2_with (at_builtin; refine wpList_append_own _ rfl _ _ 23 rfl w.heap.size 36 i0 (.agg #[.int .i64 0, .int .i64 0, .bool false, .bool false]) 4 24 Tryd.underlying23 hi0 hz0 hz1 hz2 rfl (by decide) _ _ _ rfl (HX.out.alloc _) ⟨wr.heap.size, 0, none⟩ 1 1 (pcCs [⟨f, m, true, false⟩]) rfl rfl ?c1 (plain_pcs _) ?c3 ?c4 ?c5 ?_)
      case c1 => exact new_pc _ _ _ _ _ _
      case c3 => unfold maxLen; omega
      case c4 => omega
      case c5 => rw [World.size_alloc]; have := HL.out.size; omega
      intro v5 w5 hv5 hg5 _
      obtain ⟨v5a, v5c, rfl⟩ := owns_len hv5
      have HL5 := Lib.hid (below_grown HL.out HX.out hg5 HL.out.size)
      rw [← pcCs_app] at hv5
      have HX5 := Lib.hid hv5
      have HY5 : Hid (w5.ownsRow w.heap.size 42 4 (.slice ya i yc) i (pcCs P)) := Lib.hid ((HY.out.alloc _).kept hg5 (rows_apart HX.out HY.out))
      clear hv5 hg5
      go_wp2_with (at_builtin; refine wpList_append_own _ rfl _ _ 25 rfl w.heap.size 42 j0 (.agg #[.int .i64 0, .int .i64 0, .bool false, .bool false]) 4 24 Tryd.underlying25 hj0 jz0 jz1 jz2 rfl (by decide) _ _ _ rfl (HY5.out.alloc _) ⟨w5.heap.size, 0, none⟩ 1 1 (pcCs [⟨f, m, true, false⟩]) rfl rfl ?c1 (plain_pcs _) ?c3 ?c4 ?c5 ?_)
      case c1 => exact new_pc _ _ _ _ _ _
      case c3 => unfold maxLen; omega
      case c4 => omega
      case c5 => rw [World.size_alloc]; have := HL5.out.size; omega
      intro v6 w6 hv6 hg6 _
      obtain ⟨v6a, v6c, rfl⟩ := owns_len hv6
      have HL6 := Lib.hid (below_grown HL5.out HY5.out hg6 HL5.out.size)
      rw [← pcCs_app] at hv6
      have HY6 := Lib.hid hv6
      have HX6 : Hid (w6.ownsRow w.heap.size 36 4 (.slice v5a (i + 1) v5c) (i + 1) (pcCs (P ++ [⟨f, m, true, false⟩]))) := Lib.hid ((HX5.out.alloc _).kept hg6 (rows_apart HY5.out HX5.out))
      clear hv6 hg6
      go_wp2_with fail
      go_roundw
      case rel => exact ⟨i + 1, m, P ++ [⟨f, m, true, false⟩], rfl, by go_num, by omega, hmb, by simp [hP], HFF, HX6, HY6, HL6⟩
      case measure => simp [intOf]; omega
    · obtain rfl : i = n := by omega
      have hX := pcs_row HX.out hP (Nat.le_refl w.heap.size)
      have hY := pcs_row HY.out hP (Nat.le_refl w.heap.size)
      have hlen : P.length ≤ 1000000 := by omega
      have HXX := Lib.hid hX
      have HYY := Lib.hid hY
      have HLEN := Lib.hid hlen
      have cT := touched_any _ P _ x y wr hX hlen
      rw [touch_same HF.out.1] at cT
      obtain ⟨T, hT2⟩ : ∃ T, touchR P x y = T := ⟨_, rfl⟩
      have HT2 := Lib.hid hT2
      rw [hT2] at cT
      obtain ⟨t1, t2⟩ := T
      dsimp only at cT
      have HTA := Lib.hid hT
      clear hX hY hlen hT2 hT hP hf hlt
      go_wp2_with fail
      refine cT.mono ?_
      rintro e w1 ⟨rfl, hb1⟩
      have HY1 := Lib.hid (HYY.out.later hb1)
      have HX1 := Lib.hid (HXX.out.later hb1)
      have HL1 := Lib.hid (HL.out.trans (hb1.mono HL.out.size))
      have cT2 := refTouched_any _ P _ x y w1 HY1.out HLEN.out
      rw [HT2.out] at cT2
      dsimp only at cT2
      clear cT hb1
      go_wp2_with fail
      refine cT2.mono ?_
      rintro e w2 ⟨rfl, hb2⟩
      have HY2 := Lib.hid (HY1.out.later hb2)
      have HX2 := Lib.hid (HX1.out.later hb2)
      have HL2 := Lib.hid (HL1.out.trans (hb2.mono HL1.out.size))
      have cA := alive_any w2 (HTA.out.later HL2.out)
      clear cT2 hb2
      go_wp2_with fail
      refine cA.mono ?_
      rintro e w3 ⟨rfl, hb3⟩
      have HY3 := Lib.hid (HY2.out.later hb3)
      have HL3 := Lib.hid (HL2.out.trans (hb3.mono HL2.out.size))
      have cO := of_any _ P _ x w3 (HX2.out.later hb3) HLEN.out
      obtain ⟨o, ho⟩ : ∃ o, ofL P x = o := ⟨_, rfl⟩
      have HO := Lib.hid ho
      rw [ho] at cO
      clear cA hb3 ho
      go_wp2_with fail
      refine cO.mono ?_
      rintro e w4 ⟨rfl, hb4⟩
      have HL4 := Lib.hid (HL3.out.trans (hb4.mono HL3.out.size))
      have cO2 := refOf_any _ P _ x w4 (HY3.out.later hb4) HLEN.out
      rw [HO.out] at cO2
      clear cO hb4
      go_wp2_with fail
      refine cO2.mono ?_
      rintro e w5 ⟨rfl, hb5⟩
      have HL5 := Lib.hid (HL4.out.trans (hb5.mono HL4.out.size))
      clear cO2 hb5
      go_wp2_with fail
      go_ret
      exact ⟨rfl, HL5.out⟩
set_option maxHeartbeats 8000000 in
set_option maxRecDepth 20000 in
theorem lists_any (zs : List Int) (v : Value) (x y : Int) (w : World) (h : IntsIn w zs v) (hl : zs.length ≤ 281474976710656) (hT : Tabs w) : Calls Tryd.prog 6 #[v, .int .i64 x, .int .i64 y] w fun e w' => e = .returned (.bool true) ∧ Below w.heap.size w w' := by
  by_cases hs : zs.length ≤ 40
  · exact lists_short zs v x y w h hs hT
  · have cA := alive_any w hT
    obtain ⟨a, cap, rfl, _⟩ := h
    obtain ⟨n, hn⟩ : ∃ n, zs.length = n := ⟨_, rfl⟩
    rw [hn] at hs hl ⊢
    have hz2 : (40 : Int) < (n : Int) := by omega
    clear hn
    go_enter Tryd.func6, Tryd.ntmps6
    go_wp2_with fail
    refine cA.mono ?_
    rintro e w3 ⟨rfl, hb3⟩
    go_wp2_with fail
    go_ret
    exact ⟨rfl, hb3⟩
end Go.Proofs.YtapjomdplibanaaDoor.Q

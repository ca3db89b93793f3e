/- Contracts of the document's own Touched, and of the law's Same of layer 9. -/
import Derived.Test.YtapjomdplibanaaDoorQOf2
namespace Go.Proofs.YtapjomdplibanaaDoor.Q
open Go.RowKit
open Go.Lib hiding intOf
open Go.Proofs.YtapjomdplibanaaDoor.U Go.Proofs.YtapjomdplibanaaDoor.S Go.Proofs.YtapjomdplibanaaDoor.L

set_option maxHeartbeats 8000000 in
set_option maxRecDepth 20000 in
theorem refTouched_any (B : Nat) (l : List PcP) (v : Value) (x y : Int) (w : World) (h : PcsIn B w l v) (hl : l.length ≤ 1000000) :
    Calls Tryd.prog 11 #[v, .int .i64 x, .int .i64 y] w fun e w' => e = .returned (.tuple #[.int .i64 (touchR l x y).1, .int .i64 (touchR l x y).2]) ∧ Below w.heap.size w w' := by
  have c1 := refOf_any B l v x w h hl
  have c2 := fun X (hX : Below w.heap.size w X) => refOf_any B l v y X (h.later hX) hl
  have bx := ofL_bnd l x
  have bY := ofL_bnd l y
  obtain ⟨T, hT2⟩ : ∃ T, touchR l x y = T := ⟨_, rfl⟩
  have hT : T = if l = [] ∨ x < 0 ∨ y < x ∨ (∃ e, l.getLast?.map (fun p => (p.e : Int)) = some e ∧ e < y) then (0, 0) else (max (ofL l x - 1) 0, ofL l y + 1) := hT2.symm
  rw [hT2]
  obtain ⟨p, hp⟩ : ∃ p, ofL l x = p := ⟨_, rfl⟩
  obtain ⟨q, hq⟩ : ∃ p, ofL l y = p := ⟨_, rfl⟩
  rw [hp] at c1 hT bx
  simp only [hq] at c2 hT bY
  have HT := Lib.hid hT
  have HC2 := Lib.hid c2
  have ep : IntKind.i64.wrap (p - 1) = p - 1 := IntWalk.i64_in _ (by omega)
  have eq : IntKind.i64.wrap (q + 1) = q + 1 := IntWalk.i64_in _ (by omega)
  obtain ⟨a, cap, rfl, _, hc⟩ := h
  clear c2 hT hT2 hp hq
  by_cases h0 : l.length = 0
  · have hl0 : l = [] := List.length_eq_zero_iff.1 h0
    have HE : Hid (T = (0, 0)) := Lib.hid (by rw [HT.out, if_pos (.inl hl0)])
    rw [h0]
    clear hc hl bx bY c1 HC2 h0 hl0
    go_enter Tryd.func11, Tryd.ntmps11
    go_wp2_with fail
    go_ret2
    exact ⟨by rw [HE.out]; rfl, Below.refl _ _⟩
  · obtain ⟨k, hk⟩ : ∃ k, l.length = k + 1 := ⟨l.length - 1, by omega⟩
    have hkl : k < l.length := by omega
    obtain ⟨g, off, rfl, _, hgw, hat⟩ := hc.resolve_left (fun h => h0 (by rw [h]; rfl))
    obtain ⟨_, p1, _, _⟩ := pc_at k hat hkl
    have hlast : l.getLast?.map (fun p => (p.e : Int)) = some (((l[k]).e : Nat) : Int) := by
      rw [List.getLast?_eq_getElem?, show l.length - 1 = k by omega, List.getElem?_eq_getElem hkl]; rfl
    obtain ⟨e, he⟩ : ∃ e, (l[k]).e = e := ⟨_, rfl⟩
    rw [he] at p1 hlast
    obtain ⟨m, hm⟩ : ∃ m, l.length = m := ⟨_, rfl⟩
    have hkm : (k : Int) < (m : Int) := by omega
    have hk0 : (0 : Int) ≤ (k : Int) := by omega
    have hm0 : 0 < m := by omega
    have hm1 : ¬ ((m : Int) = 0) := by omega
    have hi1 : IntKind.i64.wrap ((m : Int) - 1) = (k : Int) := (IntWalk.i64_in _ (by omega)).trans (by omega)
    have hne : ¬ l = [] := fun h => h0 (by rw [h]; rfl)
    have HT2 : Hid (T = if x < 0 ∨ y < x ∨ (e : Int) < y then (0, 0) else (max (p - 1) 0, q + 1)) := Lib.hid (by
      rw [HT.out, hlast]
      congr 1
      refine propext ⟨?_, ?_⟩
      · rintro (h | h | h | ⟨e', h, h2⟩)
        · exact absurd h hne
        · exact .inl h
        · exact .inr (.inl h)
        · cases h; exact .inr (.inr h2)
      · rintro (h | h | h)
        · exact .inr (.inl h)
        · exact .inr (.inr (.inl h))
        · exact .inr (.inr (.inr ⟨_, rfl, h⟩)))
    rw [hm] at c1 HC2 hl ⊢
    clear hat hc he hlast h0 hne hm hk HT
    by_cases hx0 : x < 0
    · have HE : Hid (T = (0, 0)) := Lib.hid (by rw [HT2.out, if_pos (.inl hx0)])
      go_enter Tryd.func11, Tryd.ntmps11
      go_wp2_with fail
      go_ret2
      exact ⟨by rw [HE.out]; rfl, Below.refl _ _⟩
    · by_cases hyx : y < x
      · have HE : Hid (T = (0, 0)) := Lib.hid (by rw [HT2.out, if_pos (.inr (.inl hyx))])
        go_enter Tryd.func11, Tryd.ntmps11
        go_wp2_with fail
        go_ret2
        exact ⟨by rw [HE.out]; rfl, Below.refl _ _⟩
      · by_cases hey : (e : Int) < y
        · have HE : Hid (T = (0, 0)) := Lib.hid (by rw [HT2.out, if_pos (.inr (.inr hey))])
          go_enter Tryd.func11, Tryd.ntmps11
          go_wp2_with fail
          go_ret2
          exact ⟨by rw [HE.out]; rfl, Below.refl _ _⟩
        · have HE : Hid (T = (max (p - 1) 0, q + 1)) := Lib.hid (by rw [HT2.out, if_neg (by omega)])
          go_enter Tryd.func11, Tryd.ntmps11
          go_wp2_with fail
          refine c1.mono ?_
          rintro e w1 ⟨rfl, hb1⟩
          have HB1 := Lib.hid hb1
          have c2 := HC2.out w1 hb1
          clear c1 hb1
          go_wp2_with fail
          refine c2.mono ?_
          rintro e w2 ⟨rfl, hb2⟩
          have HB2 := Lib.hid (HB1.out.trans (hb2.mono HB1.out.size))
          clear c2 hb2
          go_wp2_with fail
          go_ret2
          exact ⟨by rw [HE.out]; first | rfl | (simp; omega), HB2.out⟩
end Go.Proofs.YtapjomdplibanaaDoor.Q

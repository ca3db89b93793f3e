/- Contracts of the document's own Of, and of package split's Touched and the document's own. -/
import Derived.Test.YtapjomdplibanaaDoorQOf
namespace Go.Proofs.YtapjomdplibanaaDoor.Q
open Go.RowKit
open Go.Lib hiding intOf
open Go.Proofs.YtapjomdplibanaaDoor.U Go.Proofs.YtapjomdplibanaaDoor.S Go.Proofs.YtapjomdplibanaaDoor.L

set_option maxHeartbeats 8000000 in
set_option maxRecDepth 20000 in
theorem refOf_any (B : Nat) (l : List PcP) (v : Value) (x : Int) (w : World) (h : PcsIn B w l v) (hl : l.length ≤ 1000000) :
    Calls Tryd.prog 14 #[v, .int .i64 x] w fun e w' => e = .returned (.int .i64 (ofL l x)) ∧ Below w.heap.size w w' := by
  obtain ⟨a, cap, rfl, _, hc⟩ := h
  obtain ⟨n, hn⟩ : ∃ n, l.length = n := ⟨_, rfl⟩
  have HN := Lib.hid hn
  have HC := Lib.hid hc
  obtain ⟨R, hR⟩ : ∃ R, ofL l x = R := ⟨_, rfl⟩
  have HR := Lib.hid hR
  rw [hR, hn]
  rw [hn] at hl
  clear hc hn hR
  go_enter Tryd.func14, Tryd.ntmps14
  go_wp2_with fail
  go_loopw [5] (fun iv wr => ∃ i : Nat, iv = .int .i64 i ∧ i ≤ n ∧ Hid (∀ j (hj : j < l.length), j < i → inP x l[j] = false) ∧ Hid (Below w.heap.size w wr)) (fun iv _ => n - (intOf iv).toNat)
  case atStart => exact ⟨0, rfl, Nat.zero_le _, Lib.hid (fun _ _ h => absurd h (by omega)), Lib.hid (Below.refl _ _)⟩
  case round =>
    obtain ⟨i, rfl, hi, HA, HL⟩ := hrel
    by_cases hlt : i < n
    · have hil : i < l.length := by rw [HN.out]; exact hlt
      obtain ⟨g, off, rfl, _, hgw, hat⟩ := HC.out.resolve_left (fun h => by rw [h] at hil; exact Nat.not_lt_zero _ hil)
      obtain ⟨p0, p1, p2, p3⟩ := pc_at i (fun j u hj => (HL.out.cell (p := ⟨g, off + j, none⟩) hgw).trans (hat j u hj)) hil
      have hhit := fun h => (ofL_hit (x := x) hil h HA.out).symm.trans HR.out
      have hon := inP_on HA.out hil
      obtain ⟨p, hp⟩ : ∃ p, l[i] = p := ⟨_, rfl⟩
      rw [hp] at p0 p1 p2 p3 hhit hon
      obtain ⟨f, e, pd, pj⟩ := p
      dsimp only at p0 p1 p2 p3
      have HH : Hid ((f : Int) ≤ x → x < (e : Int) → (i : Int) = R) := Lib.hid (fun h1 h2 => hhit (by simp [inP, h1, h2]))
      have HO : Hid (¬ ((f : Int) ≤ x ∧ x < (e : Int)) → ∀ j (hj : j < l.length), j < i + 1 → inP x l[j] = false) := Lib.hid (fun h1 => hon (by
        unfold inP
        cases h2 : decide ((f : Int) ≤ x)
        · rfl
        · have h3 : (f : Int) ≤ x := by simpa using h2
          simp only [Bool.true_and, decide_eq_false_iff_not]
          exact fun h4 => h1 ⟨h3, h4⟩))
      clear hat hhit hon hp
      have HL2 := HL
      by_cases h1 : (f : Int) ≤ x
      · by_cases h2 : x < (e : Int)
        · have HE := Lib.hid (HH.out h1 h2)
          go_wp2_with fail
          go_ret
          exact ⟨by rw [HE.out]; rfl, HL2.out⟩
        · have HN2 := Lib.hid (HO.out (fun h => h2 h.2))
          go_wp2_with fail
          go_roundw
          case rel => exact ⟨i + 1, by go_num, by omega, HN2, HL2⟩
          case measure => simp [intOf]; omega
      · have HN2 := Lib.hid (HO.out (fun h => h1 h.1))
        go_wp2_with fail
        go_roundw
        case rel => exact ⟨i + 1, by go_num, by omega, HN2, HL2⟩
        case measure => simp [intOf]; omega
    · obtain rfl : i = n := by omega
      by_cases h0 : i = 0
      · subst h0
        have HE : Hid (R = -1) := Lib.hid (by
          have h1 : l = [] := List.length_eq_zero_iff.1 HN.out
          have h2 := HR.out
          rw [h1, ofL_nil] at h2
          exact h2.symm)
        go_wp2_with fail
        go_ret
        exact ⟨by rw [HE.out]; rfl, HL.out⟩
      · obtain ⟨k, rfl⟩ : ∃ k, i = k + 1 := ⟨i - 1, by omega⟩
        have hkl : k < l.length := by rw [HN.out]; omega
        obtain ⟨g, off, rfl, _, hgw, hat⟩ := HC.out.resolve_left (fun h => by rw [h] at hkl; exact Nat.not_lt_zero _ hkl)
        obtain ⟨_, p1, _, _⟩ := pc_at k (fun j u hj => (HL.out.cell (p := ⟨g, off + j, none⟩) hgw).trans (hat j u hj)) hkl
        have hend := (ofL_end (x := x) (fun j hj _ => HA.out j hj (by rw [← HN.out]; exact hj)) HN.out).symm.trans HR.out
        obtain ⟨e, he⟩ : ∃ e, (l[k]).e = e := ⟨_, rfl⟩
        rw [he] at p1 hend
        obtain ⟨m, hm⟩ : ∃ m, k + 1 = m := ⟨_, rfl⟩
        have hkm : (k : Int) < (m : Int) := by omega
        have hk0 : (0 : Int) ≤ (k : Int) := by omega
        have hm0 : 0 < m := by omega
        have hi1 : IntKind.i64.wrap ((m : Int) - 1) = (k : Int) := (IntWalk.i64_in _ (by omega)).trans (by omega)
        have HE := Lib.hid hend
        rw [hm]
        clear hat hend he h0 hlt hi hm
        by_cases hx : (e : Int) = x
        · have HF : Hid (R = (k : Int)) := Lib.hid (by rw [← HE.out, if_pos hx])
          have hx' : (x == (e : Int)) = true := by simpa using hx.symm
          clear hx
          go_wp2_with fail
          go_ret
          exact ⟨by rw [HF.out]; rfl, HL.out⟩
        · have HF : Hid (R = -1) := Lib.hid (by rw [← HE.out, if_neg hx])
          have hx' : (x == (e : Int)) = false := by simpa using fun h : x = (e : Int) => hx h.symm
          clear hx
          go_wp2_with fail
          go_ret
          exact ⟨by rw [HF.out]; rfl, HL.out⟩
set_option maxHeartbeats 8000000 in
set_option maxRecDepth 20000 in
theorem touched_any (B : Nat) (l : List PcP) (v : Value) (x y : Int) (w : World) (h : PcsIn B w l v) (hl : l.length ≤ 1000000) :
    Calls Tryd.prog 10 #[v, .int .i64 x, .int .i64 y] w fun e w' => e = .returned (.tuple #[.int .i64 (touchL l x y).1, .int .i64 (touchL l x y).2]) ∧ Below w.heap.size w w' := by
  have c1 := of_any B l v x w h hl
  have c2 := fun X (hX : Below w.heap.size w X) => of_any B l v y X (h.later hX) hl
  have hT : touchL l x y = if x < 0 ∨ y < x ∨ ofL l x < 0 ∨ ofL l y < 0 then (0, 0) else (max (ofL l x - 1) 0, ofL l y + 1) := rfl
  have bx := ofL_bnd l x
  have bY := ofL_bnd l y
  obtain ⟨T, hT2⟩ : ∃ T, touchL l x y = T := ⟨_, rfl⟩
  rw [hT2] at hT ⊢
  obtain ⟨p, hp⟩ : ∃ p, ofL l x = p := ⟨_, rfl⟩
  obtain ⟨q, hq⟩ : ∃ p, ofL l y = p := ⟨_, rfl⟩
  rw [hp] at c1 hT bx
  simp only [hq] at c2 hT bY
  have HT := Lib.hid hT
  have HC2 := Lib.hid c2
  have ep : IntKind.i64.wrap (p - 1) = p - 1 := IntWalk.i64_in _ (by omega)
  have eq : IntKind.i64.wrap (q + 1) = q + 1 := IntWalk.i64_in _ (by omega)
  obtain ⟨a, cap, rfl, _, _⟩ := h
  clear c2 hT hT2 hp hq
  go_enter Tryd.func10, Tryd.ntmps10
  go_wp2_with fail
  refine c1.mono ?_
  rintro e w1 ⟨rfl, hb1⟩
  have HB1 := Lib.hid hb1
  have c2 := HC2.out w1 hb1
  clear c1 hb1
  go_wp2_with fail
  refine c2.mono ?_
  rintro e w2 ⟨rfl, hb2⟩
  have HB2 := Lib.hid (HB1.out.trans (hb2.mono HB1.out.size))
  clear c2 hb2
  by_cases hx0 : x < 0
  · have HE : Hid (T = (0, 0)) := Lib.hid (by rw [HT.out, if_pos (.inl hx0)])
    go_wp2_with fail
    go_ret2
    exact ⟨by rw [HE.out]; rfl, HB2.out⟩
  · by_cases hyx : y < x
    · have HE : Hid (T = (0, 0)) := Lib.hid (by rw [HT.out, if_pos (.inr (.inl hyx))])
      go_wp2_with fail
      go_ret2
      exact ⟨by rw [HE.out]; rfl, HB2.out⟩
    · by_cases hp0 : p < 0
      · have HE : Hid (T = (0, 0)) := Lib.hid (by rw [HT.out, if_pos (.inr (.inr (.inl hp0)))])
        go_wp2_with fail
        go_ret2
        exact ⟨by rw [HE.out]; rfl, HB2.out⟩
      · by_cases hq0 : q < 0
        · have HE : Hid (T = (0, 0)) := Lib.hid (by rw [HT.out, if_pos (.inr (.inr (.inr hq0)))])
          go_wp2_with fail
          go_ret2
          exact ⟨by rw [HE.out]; rfl, HB2.out⟩
        · have HE : Hid (T = (max (p - 1) 0, q + 1)) := Lib.hid (by rw [HT.out, if_neg (by omega)])
          go_wp2_with fail
          go_ret2
          exact ⟨by rw [HE.out]; first | rfl | (simp; omega), HB2.out⟩
end Go.Proofs.YtapjomdplibanaaDoor.Q

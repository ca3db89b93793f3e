/- Plain facts about a program's pieces: what an edit does not touch. It imports nothing of the program. -/
import Derived.Test.YtapjomdplibanaaDoorQPieces
namespace Go.Proofs.YtapjomdplibanaaDoor.Q
open Go.Lib Go.Proofs.YtapjomdplibanaaDoor.U Go.Proofs.YtapjomdplibanaaDoor.S

/-- A piece behind an edit, that stood elsewhere ahead of it. -/
def Moved (k : Int) (p p' : PcP) : Prop := (p'.f : Int) = p.f + k ∧ (p'.e : Int) = p.e + k ∧ p'.d = p.d ∧ p'.j = p.j
theorem cut_take (u v : By) {p : Nat} (h : u.length + 1 ≤ p) : (u ++ 10 :: v).take p = u ++ 10 :: v.take (p - (u.length + 1)) := by
  rw [List.take_append, List.take_of_length_le (by omega)]
  obtain ⟨k, hk⟩ : ∃ k, p - u.length = k + 1 := ⟨p - u.length - 1, by omega⟩
  rw [hk, List.take_succ_cons, show p - (u.length + 1) = k by omega]
theorem piece_cut (s : By) {i : Nat} (hi : i + 1 < (pieces s).length) : ∃ u v, s = u ++ 10 :: v ∧ u.length + 1 = ((pieces s)[i + 1]).f ∧ declW v = true ∧ (cuts u 1 u.length).length = i := by
  have hl : i < (cuts s 1 (s.length - 1)).length := by unfold pieces at hi; rw [chain_len] at hi; omega
  obtain ⟨u, v, h1, h2, h3, h4⟩ := cut_at s hl
  have := heads_get s s.length (cuts s 1 (s.length - 1)) 0 i hl
  have h5 : (pieces s)[i + 1]? = some (pieces s)[i + 1] := List.getElem?_eq_getElem hi
  unfold pieces at h5
  rw [h5] at this
  exact ⟨u, v, h1, by rw [h2]; exact (Option.some.inj this).symm, h3, h4⟩
theorem edits_plain (s t : By) (p q : Nat) (hpq : p ≤ q) (hq : q ≤ s.length) :
    ∃ a b : Nat, touchL (pieces s) p q = ((a : Int), (b : Int)) ∧ a < b ∧ b ≤ (pieces s).length ∧ a + (pieces s).length ≤ (pieces (s.take p ++ t ++ s.drop q)).length + b ∧
      (∀ i, i < a → (pieces s)[i]? = (pieces (s.take p ++ t ++ s.drop q))[i]?) ∧
      ∀ i (hi : i < (pieces s).length), b ≤ i → ∃ (k : Nat) (hk : k < (pieces (s.take p ++ t ++ s.drop q)).length), k + (pieces s).length = (pieces (s.take p ++ t ++ s.drop q)).length + i ∧
        Moved ((t.length : Int) - ((q : Int) - p)) (pieces s)[i] (pieces (s.take p ++ t ++ s.drop q))[k] := by
  obtain ⟨hF, hE⟩ := fol_pieces s
  obtain ⟨j, hj, ej, j1, j2⟩ := of_in (x := (p : Int)) hF (pieces_ne s) (by omega) (by rw [hE]; omega)
  obtain ⟨m, hm, em, m1, m2⟩ := of_in (x := (q : Int)) hF (pieces_ne s) (by omega) (by rw [hE]; omega)
  have hjm : j ≤ m := by
    by_cases h : j ≤ m
    · exact h
    · have := fol_lt hF m j hj (by omega)
      omega
  have ht : touchL (pieces s) p q = (((j - 1 : Nat) : Int), ((m + 1 : Nat) : Int)) := by
    unfold touchL
    rw [ej, em, if_neg (by omega)]
    congr 1
    omega
  obtain ⟨s', hs'⟩ : ∃ s', s.take p ++ t ++ s.drop q = s' := ⟨_, rfl⟩
  -- what stands ahead
  have hA : ∃ X r r', (pieces s) = X ++ r ∧ pieces s' = X ++ r' ∧ X.length = j - 1 ∧ (2 ≤ j → ∃ u1 w, s' = u1 ++ 10 :: w ∧ u1.length + 1 ≤ p ∧ (cuts u1 1 u1.length).length = j - 1) := by
    by_cases h2 : 2 ≤ j
    · obtain ⟨i, rfl⟩ : ∃ i, j = i + 1 := ⟨j - 1, by omega⟩
      obtain ⟨u, v, h3, h4, h5, h6⟩ := piece_cut s hj
      have hup : u.length + 1 ≤ p := by rw [h4]; omega
      have h7 : s' = u ++ 10 :: (v.take (p - (u.length + 1)) ++ t ++ s.drop q) := by
        rw [← hs']
        conv => lhs; rw [h3]
        rw [cut_take u v hup, ← h3]
        simp
      obtain ⟨r, e1, _⟩ := pieces_ahead u v
      obtain ⟨r', e2, _⟩ := pieces_ahead u (v.take (p - (u.length + 1)) ++ t ++ s.drop q)
      rw [← h3] at e1
      rw [← h7] at e2
      have e3 := heads_left u v (v.take (p - (u.length + 1)) ++ t ++ s.drop q) (cuts u 1 u.length) 0 (Nat.zero_le _) (fun c hc => by have := cuts_mem hc; omega)
      rw [← h3, ← h7] at e3
      refine ⟨_, r, r', e1, by rw [e2, e3], by rw [heads_len, h6]; omega, fun _ => ⟨u, _, h7, hup, by rw [h6]; omega⟩⟩
    · exact ⟨[], _, _, rfl, rfl, by simp; omega, fun h => absurd h h2⟩
  obtain ⟨X, r, r', x1, x2, x3, x4⟩ := hA
  have hya : j - 1 ≤ (pieces s').length := by rw [x2, List.length_append, x3]; omega
  refine ⟨j - 1, m + 1, ht, by omega, by omega, ?_⟩
  have hahead : ∀ i, i < j - 1 → (pieces s)[i]? = (pieces s')[i]? := fun i hi => by
    rw [x1, x2, List.getElem?_append_left (by omega), List.getElem?_append_left (by omega)]
  rw [hs']
  by_cases hlast : m + 1 = (pieces s).length
  · exact ⟨by omega, hahead, fun i hi hb => by omega⟩
  · have hm1 : m + 1 < (pieces s).length := by omega
    obtain ⟨u, v, h3, h4, h5, h6⟩ := piece_cut s hm1
    have hqu : q ≤ u.length := by
      have := fol_lt hF m (m + 1) hm1 (by omega)
      omega
    obtain ⟨u', hu'⟩ : ∃ u', s.take p ++ t ++ u.drop q = u' := ⟨_, rfl⟩
    have h7 : s' = u' ++ 10 :: v := by
      rw [← hs', ← hu']
      conv => lhs; rw [h3]
      rw [List.drop_append_of_le_length hqu, ← h3]
      simp
    have hul : u'.length = p + t.length + (u.length - q) := by
      rw [← hu']
      simp only [List.length_append, List.length_take, List.length_drop]
      omega
    have e1 := pieces_parts u v h5
    have e2 := pieces_parts u' v h5
    have l1 := parts_len u v h5
    have l2 := parts_len u' v h5
    rw [← h3] at e1 l1
    rw [← h7] at e2 l2
    rw [h6] at l1
    have hcu : j - 1 ≤ (cuts u' 1 u'.length).length := by
      by_cases h2 : 2 ≤ j
      · obtain ⟨u1, w, w1, w2, w3⟩ := x4 h2
        have c1 := cuts_left u' v u'.length 1 (by omega)
        rw [← h7, show u'.length = u1.length + (u'.length - u1.length) by omega, cuts_app, w1, cuts_left u1 w u1.length 1 (by omega), ← w1, show u1.length + (u'.length - u1.length) = u'.length by omega] at c1
        rw [← c1, List.length_append, w3]; omega
      · omega
    refine ⟨by omega, hahead, fun i hi hb => ?_⟩
    obtain ⟨n, hn⟩ : ∃ n, i = m + 1 + n := ⟨i - (m + 1), by omega⟩
    subst hn
    have hnv : n < (pieces v).length := by omega
    have g1 : (pieces s)[m + 1 + n]? = some (shP (u.length + 1) (pieces v)[n]) := by
      rw [e1, List.getElem?_append_right (by rw [heads_len, h6]; omega), heads_len, h6, show m + 1 + n - m = n + 1 by omega, List.getElem?_cons_succ, List.getElem?_map, List.getElem?_eq_getElem hnv]
      rfl
    have hk : (cuts u' 1 u'.length).length + 1 + n < (pieces s').length := by omega
    have g2 : (pieces s')[(cuts u' 1 u'.length).length + 1 + n]? = some (shP (u'.length + 1) (pieces v)[n]) := by
      rw [e2, List.getElem?_append_right (by rw [heads_len]; omega), heads_len, show (cuts u' 1 u'.length).length + 1 + n - (cuts u' 1 u'.length).length = n + 1 by omega, List.getElem?_cons_succ, List.getElem?_map, List.getElem?_eq_getElem hnv]
      rfl
    rw [List.getElem?_eq_getElem hi] at g1
    rw [List.getElem?_eq_getElem hk] at g2
    refine ⟨(cuts u' 1 u'.length).length + 1 + n, hk, by omega, ?_⟩
    rw [Option.some.inj g1, Option.some.inj g2]
    unfold Moved shP
    exact ⟨by simp only; omega, by simp only; omega, rfl, rfl⟩
end Go.Proofs.YtapjomdplibanaaDoor.Q

/- Plain facts about the pieces of a right text: each is right; how many words it has. It imports nothing of the program. -/
import Derived.Test.YtapjomdplibanaaDoorQPieces
import Derived.Test.YtapjomdplibanaaDoorSRef3
namespace Go.Proofs.YtapjomdplibanaaDoor.Q
open Go.Lib hiding intOf
open Go.Proofs.YtapjomdplibanaaDoor.U Go.Proofs.YtapjomdplibanaaDoor.S Go.Proofs.YtapjomdplibanaaDoor.L

theorem chain_made (s : By) (e : Nat) : ∀ (cs : List Nat) (f i : Nat) (h : i < (chain s e f cs).length), ∃ f' e', (chain s e f cs)[i] = made s f' e' ∧ (i = 0 → f' = f) ∧ (0 < i → f' ∈ cs) ∧ (e' = e ∨ e' ∈ cs)
  | [], f, i, h => by
    have : i = 0 := by rw [chain_len] at h; simpa using h
    subst this
    exact ⟨f, e, rfl, fun _ => rfl, fun h => absurd h (by omega), .inl rfl⟩
  | c :: cs, f, 0, h => ⟨f, c, rfl, fun _ => rfl, fun h => absurd h (by omega), .inr (by simp)⟩
  | c :: cs, f, i + 1, h => by
    have h' : i < (chain s e c cs).length := by rw [chain_len] at h ⊢; simpa using h
    obtain ⟨f', e', h1, h2, h3, h4⟩ := chain_made s e cs c i h'
    have e0 : (chain s e f (c :: cs))[i + 1]? = (chain s e c cs)[i]? := rfl
    rw [List.getElem?_eq_getElem h, List.getElem?_eq_getElem h', h1] at e0
    refine ⟨f', e', Option.some.inj e0, fun h => absurd h (by omega), fun _ => ?_, ?_⟩
    · by_cases hi : i = 0
      · rw [h2 hi]; simp
      · exact List.mem_cons_of_mem _ (h3 (by omega))
    · rcases h4 with h4 | h4
      · exact .inl h4
      · exact .inr (List.mem_cons_of_mem _ h4)
theorem chain_strict (s : By) (e : Nat) : ∀ (cs : List Nat) (f : Nat), (f :: cs).Pairwise (· < ·) → (∀ c ∈ f :: cs, c < e) → ∀ p ∈ chain s e f cs, p.f < p.e
  | [], f, _, h, p, hp => by
    have : p = made s f e := by simpa [chain, heads, lastD] using hp
    rw [this]
    exact h f (by simp)
  | c :: cs, f, hp, h, p, hm => by
    have hp2 := List.pairwise_cons.1 hp
    have e0 : chain s e f (c :: cs) = made s f c :: chain s e c cs := rfl
    rw [e0] at hm
    rcases List.mem_cons.1 hm with rfl | hm
    · exact hp2.1 c (by simp)
    · exact chain_strict s e cs c hp2.2 (fun x hx => h x (List.mem_cons_of_mem _ hx)) p hm
theorem fol_next : ∀ {l : List PcP} {a : Nat}, Fol a l → ∀ i (hi : i + 1 < l.length), l[i + 1].f = (l[i]'(by omega)).e
  | [], _, _, _, hi => by simp at hi
  | [_], _, _, _, hi => by simp at hi
  | _ :: _ :: _, _, h, 0, _ => h.2.2.1
  | _ :: q :: r, _, h, i + 1, hi => by
    simp only [List.getElem_cons_succ]
    exact fol_next (l := q :: r) h.2.2 i (by simpa using hi)
theorem beg_10 {s : By} {i : Nat} (h : beg s i = true) (h0 : 0 < i) : s[i - 1]? = some 10 := by
  unfold beg at h
  simp only [Bool.and_eq_true, Bool.or_eq_true, decide_eq_true_eq] at h
  rcases h.1 with h | h
  · omega
  · exact h
theorem beg_decl {s : By} {i : Nat} (h : beg s i = true) : declW (s.drop i) = true := by
  unfold beg at h
  simp only [Bool.and_eq_true] at h
  exact h.2
/-- A part that ends at the end, or behind a byte 10. -/
theorem part_cut (s : By) {f e : Nat} (hfe : f < e) (h10 : s[e - 1]? = some 10) : ∃ y, s.drop f = y ++ 10 :: s.drop e ∧ (s.drop f).take (e - f) = y ++ [10] := by
  have hlt : e - 1 < s.length := (List.getElem?_eq_some_iff.1 h10).1
  have h1 := List.drop_eq_getElem_cons hlt
  rw [List.getElem?_eq_getElem hlt] at h10
  rw [Option.some.inj h10, show e - 1 + 1 = e by omega] at h1
  have hd : (s.drop f).drop (e - 1 - f) = 10 :: s.drop e := by rw [List.drop_drop, show f + (e - 1 - f) = e - 1 by omega, h1]
  have h2 : s.drop f = (s.drop f).take (e - 1 - f) ++ 10 :: s.drop e := by rw [← hd, List.take_append_drop]
  obtain ⟨y, hy⟩ : ∃ y, (s.drop f).take (e - 1 - f) = y := ⟨_, rfl⟩
  have hyl : y.length = e - 1 - f := by rw [← hy, List.length_take, List.length_drop]; omega
  rw [hy] at h2
  refine ⟨y, h2, ?_⟩
  rw [h2, List.take_append, List.take_of_length_le (by omega), hyl, show e - f - (e - 1 - f) = 1 by omega]
  rfl
/-- What is to be known of a right text's piece. -/
structure WholeAt (s : ByteArray) (p : PcP) (i : Nat) : Prop where
  fe : p.f ≤ p.e
  es : p.e ≤ s.size
  decl : 0 < i → p.d = true ∧ p.f < p.e
  dj : p.d = true → p.j = false
  ok : okB (s.extract p.f p.e) = true
  words : (decide (0 < (scanB true (s.extract p.f p.e).toList).length)) = (p.d || p.j)
  sum : (scanB true (s.toList.drop p.f)).length = (scanB true (s.extract p.f p.e).toList).length + (scanB true (s.toList.drop p.e)).length
theorem whole_at (s : ByteArray) (hok : okB s = true) {i : Nat} (hi : i < (pieces s.toList).length) : WholeAt s (pieces s.toList)[i] i := by
  obtain ⟨hF, hE⟩ := fol_pieces s.toList
  rw [tl_len] at hE
  have hm := fol_mem hF (pieces s.toList)[i] (List.getElem_mem hi)
  rw [hE] at hm
  obtain ⟨f, e, h1, h2, h3, h4⟩ := chain_made s.toList s.toList.length _ 0 i hi
  have h1' : (pieces s.toList)[i] = made s.toList f e := h1
  have hstrict : 0 < i → f < e := fun h0 => by
    have hf := cuts_mem (h3 h0)
    have := chain_strict s.toList s.toList.length (cuts s.toList 1 (s.toList.length - 1)) 0 (List.pairwise_cons.2 ⟨fun c hc => by have := (cuts_mem hc).1; omega, cuts_up _ _ _⟩) (fun c hc => by
      rcases List.mem_cons.1 hc with rfl | hc
      · omega
      · have := (cuts_mem hc).2.1; omega) _ (List.getElem_mem hi)
    have h5 : ((pieces s.toList)[i]).f < ((pieces s.toList)[i]).e := this
    rw [h1'] at h5
    exact h5
  rw [h1'] at hm ⊢
  obtain ⟨_, hfe, hes⟩ := hm
  replace hfe : f ≤ e := hfe
  replace hes : e ≤ s.size := hes
  have hbnd : ∀ k, k = 0 ∨ k = s.size ∨ s.toList[k - 1]? = some 10 ∧ 0 < k → Bnd s k := fun k hk => by
    rcases hk with rfl | rfl | ⟨hk, hk0⟩
    · exact bnd_zero s
    · exact bnd_size s
    · have := (bnd_byte hok hk (by decide)).2
      rwa [show k - 1 + 1 = k by omega] at this
  have hbf : Bnd s f := hbnd f (by
    by_cases h0 : 0 < i
    · have hf := cuts_mem (h3 h0)
      exact .inr (.inr ⟨beg_10 hf.2.2 (by omega), by omega⟩)
    · exact .inl (h2 (by omega)))
  have he10 : e = s.size ∨ (s.toList[e - 1]? = some 10 ∧ f < e) := by
    rcases h4 with h4 | h4
    · exact .inl (by rw [h4, tl_len])
    · have he := cuts_mem h4
      refine .inr ⟨beg_10 he.2.2 (by omega), ?_⟩
      by_cases h0 : 0 < i
      · exact hstrict h0
      · rw [h2 (by omega)]; omega
  have hbe : Bnd s e := hbnd e (by
    rcases he10 with h | h
    · exact .inr (.inl h)
    · exact .inr (.inr ⟨h.1, by omega⟩))
  have hokp : okB (s.extract f e) = true := mid_ok hok hbf hbe hfe
  have hx : (s.extract f e).toList = (s.toList.drop f).take (e - f) := ext_list s f e
  have hhw : hw ((s.toList.drop f).take (e - f)) = decide (0 < (scanB true (s.extract f e).toList).length) := by
    unfold hw
    rw [← hx, tl_mk, hokp]
    cases scanB true (s.extract f e).toList <;> simp
  have hsum : (scanB true (s.toList.drop f)).length = (scanB true (s.extract f e).toList).length + (scanB true (s.toList.drop e)).length ∧ declW (s.extract f e).toList = declW (s.toList.drop f) := by
    rcases he10 with h | ⟨h, hlt⟩
    · have e1 : (s.toList.drop f).take (e - f) = s.toList.drop f := List.take_of_length_le (by rw [List.length_drop, tl_len]; omega)
      have e2 : s.toList.drop e = [] := tl_end s (by omega)
      rw [hx, e1, e2]
      exact ⟨rfl, rfl⟩
    · obtain ⟨y, e1, e2⟩ := part_cut s.toList hlt h
      rw [hx, e2, e1, scan_parts true y (s.toList.drop e), declW_stop, declW_stop]
      exact ⟨rfl, rfl⟩
  have hdw : beg s.toList f = true → decide (0 < (scanB true (s.extract f e).toList).length) = true := fun hb => by
    have h5 := beg_decl hb
    rw [← hsum.2] at h5
    have h6 := (declW_scan true (s.extract f e).toList).1
    cases hsc : scanB true (s.extract f e).toList with
    | nil => rw [h6 hsc] at h5; cases h5
    | cons t u => simp
  refine ⟨hfe, hes, fun h0 => ⟨(cuts_mem (h3 h0)).2.2, hstrict h0⟩, fun hd => ?_, hokp, ?_, hsum.1⟩
  · have hd' : beg s.toList f = true := hd
    show (!beg s.toList f && hw ((s.toList.drop f).take (e - f))) = false
    rw [hd']; rfl
  · show decide (0 < (scanB true (s.extract f e).toList).length) = (beg s.toList f || (!beg s.toList f && hw ((s.toList.drop f).take (e - f))))
    rw [hhw]
    cases hb : beg s.toList f
    · simp
    · rw [hdw hb]; rfl
end Go.Proofs.YtapjomdplibanaaDoor.Q
